/- What terms ask of their Args' types, a method each. -/
import Derived.Test.YtpcgkggpmipiaaaGreatG11
namespace Go.Proofs.YtpcgkggpmipiaaaGreat
open Go.RowKit
set_option linter.unusedVariables false
set_option maxRecDepth 100000
set_option maxHeartbeats 4000000
theorem ckText {N : Nat} {w : World} {SB : Nat} {c : Ck.En} {A : ScA} {loops nodes deep : Int} (h : Sc N w SB c A loops nodes deep) (op t n : Int) (s : ByteArray) (ax : Option Addr) (kx cx : Nat) {M : Nat} {aa : Option Addr} {ac : Nat} {l : List Int} (hk : l.length = 0) (hn : ∀ x, x ∈ l → 0 ≤ x ∧ x < (c.n : Int)) (hl : NumIn M w aa l.length ac (fun i => l.getD i 0)) (ht : 0 ≤ t ∧ t < (c.n : Int)) : CkM 114 w SB op t n s ax kx cx aa l.length ac (Ck.ask c 2 t n l) := by
 obtain ⟨tn, rfl, htn⟩ := ent_nat ht
 clear ht
 obtain rfl : l = [] := List.length_eq_zero_iff.1 hk
 obtain ⟨W1, B4, HW, HG, HF⟩ := ck_open h op (tn : Int) n s ax kx cx
 clear hl hn
 have HM : Hid (∀ (b : Bool) (e : Int) W, Calls Tryz.prog 42 #[.bool b, .int .i64 e] W fun r w' => r = (bif b then .returned (.tuple #[]) else ckF e) ∧ w' = W) := ckMust_any
 obtain ⟨R, hR⟩ : ∃ R, R = ckE (Value.int .i64) (Ck.ask c 2 (tn : Int) n []) := ⟨_, rfl⟩
 unfold CkM
 rw [← hR]
 have HR : Hid (R = ckE (Value.int .i64) (Ck.ask c 2 (tn : Int) n [])) := hR
 clear hR h
 have HK : Hid (∀ W, W1.grownBy W none → Calls Tryz.prog 93 #[.agg #[.slice A.ea c.n A.ec, .slice A.va c.n A.vc], .int .i64 (tn : Int)] W fun r w' => r = .returned (.int .i64 (c.T tn).kind) ∧ W.grownBy w' none) := fun W g => ckKind_any (HF.out.sc W g).tb htn
 have HQ : Hid (Ck.kd c tn = (c.T tn).kind) := rfl
 generalize (c.T tn).kind = v0 at *
 rcases Bool.eq_false_or_eq_true (v0 == 15) with q0 | q0
 all_goals
  go_enter Tryz.func114, Tryz.ntmps114
  go_wp2_with fail
  rw [HW.out.1, HW.out.2]
  refine region_lg 8 (World.grownBy.refl _ _) (by kernel_rfl) (by kernel_rfl) (by kernel_rfl) (by kernel_rfl) ?_
  simp only [List.take_succ_cons, List.take_zero]
  repeat (first
   | (refine lx_end fun W0 GR => ?_)
   | (refine lx_no ?_ ?_ ?_; (· simp [Region.wanted]; done); (· kernel_rfl); simp only [Act.put, List.setIfInBounds_toArray, List.set_cons_succ, List.set_cons_zero])
   | (refine lx_val (v := ?_) ?_ ?_ ?_ ?_; rotate_left; (· kernel_rfl); (· exact ⟨by kernel_rfl, rfl⟩); (· intro W g; simp [go_sem, HF.out.k0 W g, HF.out.k1 W g, HF.out.x1 W g, q0]; rfl); simp only [Act.put, List.setIfInBounds_toArray, List.set_cons_succ, List.set_cons_zero])
   | (refine lx_callg HK.out ?_ ?_ ?_ ?_; (· kernel_rfl); (· exact ⟨by kernel_rfl, rfl⟩); (· intro W g; simp [go_sem]; done); simp only [Act.put, List.setIfInBounds_toArray, List.set_cons_succ, List.set_cons_zero]))
  simp only [List.drop_succ_cons, List.drop_zero]
  have r0 := HF.out.x1 W0 GR
  go_wp2_with (go_at_call 42; refine (HM.out _ _ _).mono ?_; rintro e w3 ⟨rfl, rfl⟩; simp only [cond_true, cond_false])
  first
   | (go_ret; exact ⟨by rw [HR.out]; simp [ckE, Ck.ask, Ck.must, bind, Except.bind, HQ.out, q0], grown_trans HG.out GR⟩)
   | exact ⟨rfl, by rw [HR.out]; simp [ckE, Ck.ask, Ck.must, bind, Except.bind, HQ.out, q0], grown_trans HG.out GR⟩
theorem ckFresh {N : Nat} {w : World} {SB : Nat} {c : Ck.En} {A : ScA} {loops nodes deep : Int} (h : Sc N w SB c A loops nodes deep) (op t n : Int) (s : ByteArray) (ax : Option Addr) (kx cx : Nat) {M : Nat} {aa : Option Addr} {ac : Nat} {l : List Int} (hk : l.length = 0) (hn : ∀ x, x ∈ l → 0 ≤ x ∧ x < (c.n : Int)) (hl : NumIn M w aa l.length ac (fun i => l.getD i 0)) (ht : 0 ≤ t ∧ t < (c.n : Int)) : CkM 129 w SB op t n s ax kx cx aa l.length ac (Ck.ask c 18 t n l) := by
 obtain ⟨tn, rfl, htn⟩ := ent_nat ht
 clear ht
 obtain rfl : l = [] := List.length_eq_zero_iff.1 hk
 obtain ⟨W1, B4, HW, HG, HF⟩ := ck_open h op (tn : Int) n s ax kx cx
 clear hl hn
 have HM : Hid (∀ (b : Bool) (e : Int) W, Calls Tryz.prog 42 #[.bool b, .int .i64 e] W fun r w' => r = (bif b then .returned (.tuple #[]) else ckF e) ∧ w' = W) := ckMust_any
 obtain ⟨R, hR⟩ : ∃ R, R = ckE (Value.int .i64) (Ck.ask c 18 (tn : Int) n []) := ⟨_, rfl⟩
 unfold CkM
 rw [← hR]
 have HR : Hid (R = ckE (Value.int .i64) (Ck.ask c 18 (tn : Int) n [])) := hR
 clear hR h
 have HK : Hid (∀ W, W1.grownBy W none → Calls Tryz.prog 93 #[.agg #[.slice A.ea c.n A.ec, .slice A.va c.n A.vc], .int .i64 (tn : Int)] W fun r w' => r = .returned (.int .i64 (c.T tn).kind) ∧ W.grownBy w' none) := fun W g => ckKind_any (HF.out.sc W g).tb htn
 have HQ : Hid (Ck.kd c tn = (c.T tn).kind) := rfl
 generalize (c.T tn).kind = v0 at *
 rcases Bool.eq_false_or_eq_true (v0 == 11) with q0 | q0
 all_goals
  go_enter Tryz.func129, Tryz.ntmps129
  go_wp2_with fail
  rw [HW.out.1, HW.out.2]
  refine region_lg 8 (World.grownBy.refl _ _) (by kernel_rfl) (by kernel_rfl) (by kernel_rfl) (by kernel_rfl) ?_
  simp only [List.take_succ_cons, List.take_zero]
  repeat (first
   | (refine lx_end fun W0 GR => ?_)
   | (refine lx_no ?_ ?_ ?_; (· simp [Region.wanted]; done); (· kernel_rfl); simp only [Act.put, List.setIfInBounds_toArray, List.set_cons_succ, List.set_cons_zero])
   | (refine lx_val (v := ?_) ?_ ?_ ?_ ?_; rotate_left; (· kernel_rfl); (· exact ⟨by kernel_rfl, rfl⟩); (· intro W g; simp [go_sem, HF.out.k0 W g, HF.out.k1 W g, HF.out.x1 W g, q0]; rfl); simp only [Act.put, List.setIfInBounds_toArray, List.set_cons_succ, List.set_cons_zero])
   | (refine lx_callg HK.out ?_ ?_ ?_ ?_; (· kernel_rfl); (· exact ⟨by kernel_rfl, rfl⟩); (· intro W g; simp [go_sem]; done); simp only [Act.put, List.setIfInBounds_toArray, List.set_cons_succ, List.set_cons_zero]))
  simp only [List.drop_succ_cons, List.drop_zero]
  have r0 := HF.out.x1 W0 GR
  go_wp2_with (go_at_call 42; refine (HM.out _ _ _).mono ?_; rintro e w3 ⟨rfl, rfl⟩; simp only [cond_true, cond_false])
  first
   | (go_ret; exact ⟨by rw [HR.out]; simp [ckE, Ck.ask, Ck.must, bind, Except.bind, HQ.out, q0], grown_trans HG.out GR⟩)
   | exact ⟨rfl, by rw [HR.out]; simp [ckE, Ck.ask, Ck.must, bind, Except.bind, HQ.out, q0], grown_trans HG.out GR⟩
theorem ckNull {N : Nat} {w : World} {SB : Nat} {c : Ck.En} {A : ScA} {loops nodes deep : Int} (h : Sc N w SB c A loops nodes deep) (op t n : Int) (s : ByteArray) (ax : Option Addr) (kx cx : Nat) {M : Nat} {aa : Option Addr} {ac : Nat} {l : List Int} (hk : l.length = 0) (hn : ∀ x, x ∈ l → 0 ≤ x ∧ x < (c.n : Int)) (hl : NumIn M w aa l.length ac (fun i => l.getD i 0)) (ht : 0 ≤ t ∧ t < (c.n : Int)) : CkM 115 w SB op t n s ax kx cx aa l.length ac (Ck.ask c 3 t n l) := by
 obtain ⟨tn, rfl, htn⟩ := ent_nat ht
 clear ht
 obtain rfl : l = [] := List.length_eq_zero_iff.1 hk
 obtain ⟨W1, B4, HW, HG, HF⟩ := ck_open h op (tn : Int) n s ax kx cx
 clear hl hn
 have HM : Hid (∀ (b : Bool) (e : Int) W, Calls Tryz.prog 42 #[.bool b, .int .i64 e] W fun r w' => r = (bif b then .returned (.tuple #[]) else ckF e) ∧ w' = W) := ckMust_any
 obtain ⟨R, hR⟩ : ∃ R, R = ckE (Value.int .i64) (Ck.ask c 3 (tn : Int) n []) := ⟨_, rfl⟩
 unfold CkM
 rw [← hR]
 have HR : Hid (R = ckE (Value.int .i64) (Ck.ask c 3 (tn : Int) n [])) := hR
 clear hR h
 have HK : Hid (∀ W, W1.grownBy W none → Calls Tryz.prog 93 #[.agg #[.slice A.ea c.n A.ec, .slice A.va c.n A.vc], .int .i64 (tn : Int)] W fun r w' => r = .returned (.int .i64 (c.T tn).kind) ∧ W.grownBy w' none) := fun W g => ckKind_any (HF.out.sc W g).tb htn
 have HQ : Hid (Ck.kd c tn = (c.T tn).kind) := rfl
 generalize (c.T tn).kind = v0 at *
 rcases Bool.eq_false_or_eq_true (v0 == 11) with q0 | q0
 all_goals rcases Bool.eq_false_or_eq_true (v0 == 14) with q1 | q1
 all_goals
  go_enter Tryz.func115, Tryz.ntmps115
  go_wp2_with fail
  rw [HW.out.1, HW.out.2]
  refine region_lg 18 (World.grownBy.refl _ _) (by kernel_rfl) (by kernel_rfl) (by kernel_rfl) (by kernel_rfl) ?_
  simp only [List.take_succ_cons, List.take_zero]
  repeat (first
   | (refine lx_end fun W0 GR => ?_)
   | (refine lx_no ?_ ?_ ?_; (· simp [Region.wanted, yielded]; done); (· kernel_rfl); simp only [Act.put, List.setIfInBounds_toArray, List.set_cons_succ, List.set_cons_zero])
   | (refine lx_val (v := ?_) ?_ ?_ ?_ ?_; rotate_left; (· kernel_rfl); (· exact ⟨by kernel_rfl, rfl⟩); (· intro W g; simp [go_sem, HF.out.k0 W g, HF.out.k1 W g, HF.out.x1 W g, q0, q1]; rfl); simp only [Act.put, List.setIfInBounds_toArray, List.set_cons_succ, List.set_cons_zero])
   | (refine lx_callg HK.out ?_ ?_ ?_ ?_; (· kernel_rfl); (· exact ⟨by kernel_rfl, rfl⟩); (· intro W g; simp [go_sem]; done); simp only [Act.put, List.setIfInBounds_toArray, List.set_cons_succ, List.set_cons_zero]))
  simp only [List.drop_succ_cons, List.drop_zero]
  have r0 := HF.out.x1 W0 GR
  go_wp2_with (go_at_call 42; refine (HM.out _ _ _).mono ?_; rintro e w3 ⟨rfl, rfl⟩; simp only [cond_true, cond_false])
  first
   | (go_ret; exact ⟨by rw [HR.out]; simp [ckE, Ck.ask, Ck.must, bind, Except.bind, HQ.out, q0, q1], grown_trans HG.out GR⟩)
   | exact ⟨rfl, by rw [HR.out]; simp [ckE, Ck.ask, Ck.must, bind, Except.bind, HQ.out, q0, q1], grown_trans HG.out GR⟩
theorem ckMany {N : Nat} {w : World} {SB : Nat} {c : Ck.En} {A : ScA} {loops nodes deep : Int} (h : Sc N w SB c A loops nodes deep) (op t n : Int) (s : ByteArray) (ax : Option Addr) (kx cx : Nat) {M : Nat} {aa : Option Addr} {ac : Nat} {l : List Int} (hk : l.length = 1) (hn : ∀ x, x ∈ l → 0 ≤ x ∧ x < (c.n : Int)) (hl : NumIn M w aa l.length ac (fun i => l.getD i 0)) (ht : 0 ≤ t ∧ t < (c.n : Int)) : CkM 130 w SB op t n s ax kx cx aa l.length ac (Ck.ask c 19 t n l) := by
 obtain ⟨tn, rfl, htn⟩ := ent_nat ht
 clear ht
 obtain ⟨a0, rfl, h0⟩ := list1 hk hn
 obtain ⟨W1, B4, HW, HG, HF⟩ := ck_open h op (tn : Int) n s ax kx cx
 obtain ⟨ab, ao, rfl, HA, hac⟩ := nums_at (hl.grow HG.out) (by simp)
 have HA0 : Hid (∀ W, W1.grownBy W none → W.cell? ⟨ab, ao, none⟩ = some (.int .i64 (a0 : Int))) := fun W g => HA.out W g 0 (by simp)
 simp only [List.length_cons, List.length_nil, Nat.zero_add] at hac
 clear HA hl hn hk
 have HM : Hid (∀ (b : Bool) (e : Int) W, Calls Tryz.prog 42 #[.bool b, .int .i64 e] W fun r w' => r = (bif b then .returned (.tuple #[]) else ckF e) ∧ w' = W) := ckMust_any
 obtain ⟨R, hR⟩ : ∃ R, R = ckE (Value.int .i64) (Ck.ask c 19 (tn : Int) n [(a0 : Int)]) := ⟨_, rfl⟩
 unfold CkM
 rw [← hR]
 have HR : Hid (R = ckE (Value.int .i64) (Ck.ask c 19 (tn : Int) n [(a0 : Int)])) := hR
 clear hR h
 have HK : Hid (∀ W, W1.grownBy W none → Calls Tryz.prog 93 #[.agg #[.slice A.ea c.n A.ec, .slice A.va c.n A.vc], .int .i64 (tn : Int)] W fun r w' => r = .returned (.int .i64 (c.T tn).kind) ∧ W.grownBy w' none) := fun W g => ckKind_any (HF.out.sc W g).tb htn
 obtain ⟨z0, hz_z0⟩ : ∃ z : Bool, z = Ck.intK c a0 := ⟨_, rfl⟩
 have HZ0 : Hid (Ck.intK c a0 = z0) := hz_z0.symm
 have HI : Hid (∀ W, W1.grownBy W none → Calls Tryz.prog 172 #[.agg #[.slice A.ea c.n A.ec, .slice A.va c.n A.vc], .int .i64 (a0 : Int)] W fun r w' => r = .returned (.bool z0) ∧ W.grownBy w' none) := fun W g => by rw [hz_z0]; exact ckInt_any (HF.out.sc W g).tb h0
 clear hz_z0
 have HQ : Hid (Ck.kd c tn = (c.T tn).kind) := rfl
 generalize (c.T tn).kind = v0 at *
 rcases Bool.eq_false_or_eq_true (v0 == 14) with q0 | q0
 all_goals cases z0
 all_goals
  go_enter Tryz.func130, Tryz.ntmps130
  go_wp2_with fail
  rw [HW.out.1, HW.out.2]
  refine region_lg 18 (World.grownBy.refl _ _) (by kernel_rfl) (by kernel_rfl) (by kernel_rfl) (by kernel_rfl) ?_
  simp only [List.take_succ_cons, List.take_zero]
  repeat (first
   | (refine lx_end fun W0 GR => ?_)
   | (refine lx_no ?_ ?_ ?_; (· simp [Region.wanted, yielded]; done); (· kernel_rfl); simp only [Act.put, List.setIfInBounds_toArray, List.set_cons_succ, List.set_cons_zero])
   | (refine lx_val (v := ?_) ?_ ?_ ?_ ?_; rotate_left; (· kernel_rfl); (· exact ⟨by kernel_rfl, rfl⟩); (· intro W g; simp [go_sem, HF.out.k0 W g, HF.out.k1 W g, HF.out.x1 W g, HA0.out W g, q0]; rfl); simp only [Act.put, List.setIfInBounds_toArray, List.set_cons_succ, List.set_cons_zero])
   | (refine lx_callg HK.out ?_ ?_ ?_ ?_; (· kernel_rfl); (· exact ⟨by kernel_rfl, rfl⟩); (· intro W g; simp [go_sem]; done); simp only [Act.put, List.setIfInBounds_toArray, List.set_cons_succ, List.set_cons_zero])
   | (refine lx_callg HI.out ?_ ?_ ?_ ?_; (· kernel_rfl); (· exact ⟨by kernel_rfl, rfl⟩); (· intro W g; simp [go_sem]; done); simp only [Act.put, List.setIfInBounds_toArray, List.set_cons_succ, List.set_cons_zero]))
  simp only [List.drop_succ_cons, List.drop_zero]
  have r0 := HF.out.x1 W0 GR
  go_wp2_with (go_at_call 42; refine (HM.out _ _ _).mono ?_; rintro e w3 ⟨rfl, rfl⟩; simp only [cond_true, cond_false])
  first
   | (go_ret; exact ⟨by rw [HR.out]; simp [ckE, Ck.ask, Ck.must, bind, Except.bind, HQ.out, q0, HZ0.out], grown_trans HG.out GR⟩)
   | exact ⟨rfl, by rw [HR.out]; simp [ckE, Ck.ask, Ck.must, bind, Except.bind, HQ.out, q0, HZ0.out], grown_trans HG.out GR⟩
theorem ckIndex {N : Nat} {w : World} {SB : Nat} {c : Ck.En} {A : ScA} {loops nodes deep : Int} (h : Sc N w SB c A loops nodes deep) (op t n : Int) (s : ByteArray) (ax : Option Addr) (kx cx : Nat) {M : Nat} {aa : Option Addr} {ac : Nat} {l : List Int} (hk : l.length = 2) (hn : ∀ x, x ∈ l → 0 ≤ x ∧ x < (c.n : Int)) (hl : NumIn M w aa l.length ac (fun i => l.getD i 0)) (ht : 0 ≤ t ∧ t < (c.n : Int)) : CkM 126 w SB op t n s ax kx cx aa l.length ac (Ck.ask c 15 t n l) := by
 obtain ⟨tn, rfl, htn⟩ := ent_nat ht
 clear ht
 obtain ⟨a0, a1, rfl, h0, h1⟩ := list2 hk hn
 obtain ⟨W1, B4, HW, HG, HF⟩ := ck_open h op (tn : Int) n s ax kx cx
 obtain ⟨ab, ao, rfl, HA, hac⟩ := nums_at (hl.grow HG.out) (by simp)
 have HA0 : Hid (∀ W, W1.grownBy W none → W.cell? ⟨ab, ao, none⟩ = some (.int .i64 (a0 : Int))) := fun W g => HA.out W g 0 (by simp)
 have HA1 : Hid (∀ W, W1.grownBy W none → W.cell? ⟨ab, ao + 1, none⟩ = some (.int .i64 (a1 : Int))) := fun W g => HA.out W g 1 (by simp)
 simp only [List.length_cons, List.length_nil, Nat.zero_add, Nat.reduceAdd] at hac
 clear HA hl hn hk
 have HM : Hid (∀ (b : Bool) (e : Int) W, Calls Tryz.prog 42 #[.bool b, .int .i64 e] W fun r w' => r = (bif b then .returned (.tuple #[]) else ckF e) ∧ w' = W) := ckMust_any
 obtain ⟨R, hR⟩ : ∃ R, R = ckE (Value.int .i64) (Ck.ask c 15 (tn : Int) n [(a0 : Int), (a1 : Int)]) := ⟨_, rfl⟩
 unfold CkM
 rw [← hR]
 have HR : Hid (R = ckE (Value.int .i64) (Ck.ask c 15 (tn : Int) n [(a0 : Int), (a1 : Int)])) := hR
 clear hR h
 have HK : Hid (∀ W, W1.grownBy W none → Calls Tryz.prog 93 #[.agg #[.slice A.ea c.n A.ec, .slice A.va c.n A.vc], .int .i64 (tn : Int)] W fun r w' => r = .returned (.int .i64 (c.T tn).kind) ∧ W.grownBy w' none) := fun W g => ckKind_any (HF.out.sc W g).tb htn
 have HK0 : Hid (∀ W, W1.grownBy W none → Calls Tryz.prog 93 #[.agg #[.slice A.ea c.n A.ec, .slice A.va c.n A.vc], .int .i64 (a0 : Int)] W fun r w' => r = .returned (.int .i64 (c.T a0).kind) ∧ W.grownBy w' none) := fun W g => ckKind_any (HF.out.sc W g).tb h0
 obtain ⟨z1, hz_z1⟩ : ∃ z : Bool, z = Ck.intK c a1 := ⟨_, rfl⟩
 have HZ1 : Hid (Ck.intK c a1 = z1) := hz_z1.symm
 have HI : Hid (∀ W, W1.grownBy W none → Calls Tryz.prog 172 #[.agg #[.slice A.ea c.n A.ec, .slice A.va c.n A.vc], .int .i64 (a1 : Int)] W fun r w' => r = .returned (.bool z1) ∧ W.grownBy w' none) := fun W g => by rw [hz_z1]; exact ckInt_any (HF.out.sc W g).tb h1
 clear hz_z1
 have HQ : Hid (Ck.kd c tn = (c.T tn).kind ∧ Ck.kd c a0 = (c.T a0).kind) := ⟨rfl, rfl⟩
 generalize (c.T tn).kind = v0 at *
 generalize (c.T a0).kind = v1 at *
 rcases Bool.eq_false_or_eq_true (v1 == 15) with q0 | q0
 all_goals rcases Bool.eq_false_or_eq_true (v0 == 6) with q1 | q1
 all_goals cases z1
 all_goals
  go_enter Tryz.func126, Tryz.ntmps126
  go_wp2_with fail
  rw [HW.out.1, HW.out.2]
  refine region_lg 29 (World.grownBy.refl _ _) (by kernel_rfl) (by kernel_rfl) (by kernel_rfl) (by kernel_rfl) ?_
  simp only [List.take_succ_cons, List.take_zero]
  repeat (first
   | (refine lx_end fun W0 GR => ?_)
   | (refine lx_no ?_ ?_ ?_; (· simp [Region.wanted, yielded]; done); (· kernel_rfl); simp only [Act.put, List.setIfInBounds_toArray, List.set_cons_succ, List.set_cons_zero])
   | (refine lx_val (v := ?_) ?_ ?_ ?_ ?_; rotate_left; (· kernel_rfl); (· exact ⟨by kernel_rfl, rfl⟩); (· intro W g; simp [go_sem, HF.out.k0 W g, HF.out.k1 W g, HF.out.x1 W g, HA0.out W g, HA1.out W g, q0, q1]; rfl); simp only [Act.put, List.setIfInBounds_toArray, List.set_cons_succ, List.set_cons_zero])
   | (refine lx_callg HK0.out ?_ ?_ ?_ ?_; (· kernel_rfl); (· exact ⟨by kernel_rfl, rfl⟩); (· intro W g; simp [go_sem]; done); simp only [Act.put, List.setIfInBounds_toArray, List.set_cons_succ, List.set_cons_zero])
   | (refine lx_callg HK.out ?_ ?_ ?_ ?_; (· kernel_rfl); (· exact ⟨by kernel_rfl, rfl⟩); (· intro W g; simp [go_sem]; done); simp only [Act.put, List.setIfInBounds_toArray, List.set_cons_succ, List.set_cons_zero])
   | (refine lx_callg HI.out ?_ ?_ ?_ ?_; (· kernel_rfl); (· exact ⟨by kernel_rfl, rfl⟩); (· intro W g; simp [go_sem]; done); simp only [Act.put, List.setIfInBounds_toArray, List.set_cons_succ, List.set_cons_zero]))
  simp only [List.drop_succ_cons, List.drop_zero]
  have r0 := HF.out.x1 W0 GR
  go_wp2_with (go_at_call 42; refine (HM.out _ _ _).mono ?_; rintro e w3 ⟨rfl, rfl⟩; simp only [cond_true, cond_false])
  first
   | (go_ret; exact ⟨by rw [HR.out]; simp [ckE, Ck.ask, Ck.must, bind, Except.bind, HQ.out.1, HQ.out.2, q0, q1, HZ1.out], grown_trans HG.out GR⟩)
   | exact ⟨rfl, by rw [HR.out]; simp [ckE, Ck.ask, Ck.must, bind, Except.bind, HQ.out.1, HQ.out.2, q0, q1, HZ1.out], grown_trans HG.out GR⟩
theorem ckLength {N : Nat} {w : World} {SB : Nat} {c : Ck.En} {A : ScA} {loops nodes deep : Int} (h : Sc N w SB c A loops nodes deep) (op t n : Int) (s : ByteArray) (ax : Option Addr) (kx cx : Nat) {M : Nat} {aa : Option Addr} {ac : Nat} {l : List Int} (hk : l.length = 1) (hn : ∀ x, x ∈ l → 0 ≤ x ∧ x < (c.n : Int)) (hl : NumIn M w aa l.length ac (fun i => l.getD i 0)) (ht : 0 ≤ t ∧ t < (c.n : Int)) : CkM 127 w SB op t n s ax kx cx aa l.length ac (Ck.ask c 16 t n l) := by
 obtain ⟨tn, rfl, htn⟩ := ent_nat ht
 clear ht
 obtain ⟨a0, rfl, h0⟩ := list1 hk hn
 obtain ⟨W1, B4, HW, HG, HF⟩ := ck_open h op (tn : Int) n s ax kx cx
 obtain ⟨ab, ao, rfl, HA, hac⟩ := nums_at (hl.grow HG.out) (by simp)
 have HA0 : Hid (∀ W, W1.grownBy W none → W.cell? ⟨ab, ao, none⟩ = some (.int .i64 (a0 : Int))) := fun W g => HA.out W g 0 (by simp)
 simp only [List.length_cons, List.length_nil, Nat.zero_add] at hac
 clear HA hl hn hk
 have HM : Hid (∀ (b : Bool) (e : Int) W, Calls Tryz.prog 42 #[.bool b, .int .i64 e] W fun r w' => r = (bif b then .returned (.tuple #[]) else ckF e) ∧ w' = W) := ckMust_any
 obtain ⟨R, hR⟩ : ∃ R, R = ckE (Value.int .i64) (Ck.ask c 16 (tn : Int) n [(a0 : Int)]) := ⟨_, rfl⟩
 unfold CkM
 rw [← hR]
 have HR : Hid (R = ckE (Value.int .i64) (Ck.ask c 16 (tn : Int) n [(a0 : Int)])) := hR
 clear hR h
 have HK : Hid (∀ W, W1.grownBy W none → Calls Tryz.prog 93 #[.agg #[.slice A.ea c.n A.ec, .slice A.va c.n A.vc], .int .i64 (tn : Int)] W fun r w' => r = .returned (.int .i64 (c.T tn).kind) ∧ W.grownBy w' none) := fun W g => ckKind_any (HF.out.sc W g).tb htn
 obtain ⟨z0, hz_z0⟩ : ∃ z : Bool, z = Ck.listK c a0 := ⟨_, rfl⟩
 have HZ0 : Hid (Ck.listK c a0 = z0) := hz_z0.symm
 have HI : Hid (∀ W, W1.grownBy W none → Calls Tryz.prog 173 #[.agg #[.slice A.ea c.n A.ec, .slice A.va c.n A.vc], .int .i64 (a0 : Int)] W fun r w' => r = .returned (.bool z0) ∧ W.grownBy w' none) := fun W g => by rw [hz_z0]; exact ckList_any (HF.out.sc W g).tb h0
 clear hz_z0
 have HQ : Hid (Ck.kd c tn = (c.T tn).kind) := rfl
 generalize (c.T tn).kind = v0 at *
 rcases Bool.eq_false_or_eq_true (v0 == 5) with q0 | q0
 all_goals cases z0
 all_goals
  go_enter Tryz.func127, Tryz.ntmps127
  go_wp2_with fail
  rw [HW.out.1, HW.out.2]
  refine region_lg 18 (World.grownBy.refl _ _) (by kernel_rfl) (by kernel_rfl) (by kernel_rfl) (by kernel_rfl) ?_
  simp only [List.take_succ_cons, List.take_zero]
  repeat (first
   | (refine lx_end fun W0 GR => ?_)
   | (refine lx_no ?_ ?_ ?_; (· simp [Region.wanted, yielded]; done); (· kernel_rfl); simp only [Act.put, List.setIfInBounds_toArray, List.set_cons_succ, List.set_cons_zero])
   | (refine lx_val (v := ?_) ?_ ?_ ?_ ?_; rotate_left; (· kernel_rfl); (· exact ⟨by kernel_rfl, rfl⟩); (· intro W g; simp [go_sem, HF.out.k0 W g, HF.out.k1 W g, HF.out.x1 W g, HA0.out W g, q0]; rfl); simp only [Act.put, List.setIfInBounds_toArray, List.set_cons_succ, List.set_cons_zero])
   | (refine lx_callg HK.out ?_ ?_ ?_ ?_; (· kernel_rfl); (· exact ⟨by kernel_rfl, rfl⟩); (· intro W g; simp [go_sem]; done); simp only [Act.put, List.setIfInBounds_toArray, List.set_cons_succ, List.set_cons_zero])
   | (refine lx_callg HI.out ?_ ?_ ?_ ?_; (· kernel_rfl); (· exact ⟨by kernel_rfl, rfl⟩); (· intro W g; simp [go_sem]; done); simp only [Act.put, List.setIfInBounds_toArray, List.set_cons_succ, List.set_cons_zero]))
  simp only [List.drop_succ_cons, List.drop_zero]
  have r0 := HF.out.x1 W0 GR
  go_wp2_with (go_at_call 42; refine (HM.out _ _ _).mono ?_; rintro e w3 ⟨rfl, rfl⟩; simp only [cond_true, cond_false])
  first
   | (go_ret; exact ⟨by rw [HR.out]; simp [ckE, Ck.ask, Ck.must, bind, Except.bind, HQ.out, q0, HZ0.out], grown_trans HG.out GR⟩)
   | exact ⟨rfl, by rw [HR.out]; simp [ckE, Ck.ask, Ck.must, bind, Except.bind, HQ.out, q0, HZ0.out], grown_trans HG.out GR⟩
theorem ckSlice {N : Nat} {w : World} {SB : Nat} {c : Ck.En} {A : ScA} {loops nodes deep : Int} (h : Sc N w SB c A loops nodes deep) (op t n : Int) (s : ByteArray) (ax : Option Addr) (kx cx : Nat) {M : Nat} {aa : Option Addr} {ac : Nat} {l : List Int} (hk : l.length = 3) (hn : ∀ x, x ∈ l → 0 ≤ x ∧ x < (c.n : Int)) (hl : NumIn M w aa l.length ac (fun i => l.getD i 0)) : CkM 128 w SB op t n s ax kx cx aa l.length ac (Ck.ask c 17 t n l) := by
 obtain ⟨a0, a1, a2, rfl, h0, h1, h2⟩ := list3 hk hn
 obtain ⟨W1, B4, HW, HG, HF⟩ := ck_open h op t n s ax kx cx
 obtain ⟨ab, ao, rfl, HA, hac⟩ := nums_at (hl.grow HG.out) (by simp)
 have HA0 : Hid (∀ W, W1.grownBy W none → W.cell? ⟨ab, ao, none⟩ = some (.int .i64 (a0 : Int))) := fun W g => HA.out W g 0 (by simp)
 have HA1 : Hid (∀ W, W1.grownBy W none → W.cell? ⟨ab, ao + 1, none⟩ = some (.int .i64 (a1 : Int))) := fun W g => HA.out W g 1 (by simp)
 have HA2 : Hid (∀ W, W1.grownBy W none → W.cell? ⟨ab, ao + 2, none⟩ = some (.int .i64 (a2 : Int))) := fun W g => HA.out W g 2 (by simp)
 simp only [List.length_cons, List.length_nil, Nat.zero_add, Nat.reduceAdd] at hac
 clear HA hl hn hk
 have HM : Hid (∀ (b : Bool) (e : Int) W, Calls Tryz.prog 42 #[.bool b, .int .i64 e] W fun r w' => r = (bif b then .returned (.tuple #[]) else ckF e) ∧ w' = W) := ckMust_any
 obtain ⟨R, hR⟩ : ∃ R, R = ckE (Value.int .i64) (Ck.ask c 17 t n [(a0 : Int), (a1 : Int), (a2 : Int)]) := ⟨_, rfl⟩
 unfold CkM
 rw [← hR]
 have HR : Hid (R = ckE (Value.int .i64) (Ck.ask c 17 t n [(a0 : Int), (a1 : Int), (a2 : Int)])) := hR
 clear hR h
 obtain ⟨z0, hz_z0⟩ : ∃ z : Bool, z = Ck.listK c a0 := ⟨_, rfl⟩
 have HZ0 : Hid (Ck.listK c a0 = z0) := hz_z0.symm
 have HI : Hid (∀ W, W1.grownBy W none → Calls Tryz.prog 173 #[.agg #[.slice A.ea c.n A.ec, .slice A.va c.n A.vc], .int .i64 (a0 : Int)] W fun r w' => r = .returned (.bool z0) ∧ W.grownBy w' none) := fun W g => by rw [hz_z0]; exact ckList_any (HF.out.sc W g).tb h0
 clear hz_z0
 obtain ⟨z1, hz_z1⟩ : ∃ z : Bool, z = Ck.intK c a1 := ⟨_, rfl⟩
 have HZ1 : Hid (Ck.intK c a1 = z1) := hz_z1.symm
 have HI1 : Hid (∀ W, W1.grownBy W none → Calls Tryz.prog 172 #[.agg #[.slice A.ea c.n A.ec, .slice A.va c.n A.vc], .int .i64 (a1 : Int)] W fun r w' => r = .returned (.bool z1) ∧ W.grownBy w' none) := fun W g => by rw [hz_z1]; exact ckInt_any (HF.out.sc W g).tb h1
 clear hz_z1
 obtain ⟨z2, hz_z2⟩ : ∃ z : Bool, z = Ck.intK c a2 := ⟨_, rfl⟩
 have HZ2 : Hid (Ck.intK c a2 = z2) := hz_z2.symm
 have HI2 : Hid (∀ W, W1.grownBy W none → Calls Tryz.prog 172 #[.agg #[.slice A.ea c.n A.ec, .slice A.va c.n A.vc], .int .i64 (a2 : Int)] W fun r w' => r = .returned (.bool z2) ∧ W.grownBy w' none) := fun W g => by rw [hz_z2]; exact ckInt_any (HF.out.sc W g).tb h2
 clear hz_z2
 cases z0
 all_goals cases z1
 all_goals cases z2
 all_goals
  go_enter Tryz.func128, Tryz.ntmps128
  go_wp2_with fail
  rw [HW.out.1, HW.out.2]
  refine region_lg 28 (World.grownBy.refl _ _) (by kernel_rfl) (by kernel_rfl) (by kernel_rfl) (by kernel_rfl) ?_
  simp only [List.take_succ_cons, List.take_zero]
  repeat (first
   | (refine lx_end fun W0 GR => ?_)
   | (refine lx_no ?_ ?_ ?_; (· simp [Region.wanted, yielded]; done); (· kernel_rfl); simp only [Act.put, List.setIfInBounds_toArray, List.set_cons_succ, List.set_cons_zero])
   | (refine lx_val (v := ?_) ?_ ?_ ?_ ?_; rotate_left; (· kernel_rfl); (· exact ⟨by kernel_rfl, rfl⟩); (· intro W g; simp [go_sem, HF.out.k0 W g, HF.out.k1 W g, HA0.out W g, HA1.out W g, HA2.out W g]; rfl); simp only [Act.put, List.setIfInBounds_toArray, List.set_cons_succ, List.set_cons_zero])
   | (refine lx_callg HI.out ?_ ?_ ?_ ?_; (· kernel_rfl); (· exact ⟨by kernel_rfl, rfl⟩); (· intro W g; simp [go_sem]; done); simp only [Act.put, List.setIfInBounds_toArray, List.set_cons_succ, List.set_cons_zero])
   | (refine lx_callg HI1.out ?_ ?_ ?_ ?_; (· kernel_rfl); (· exact ⟨by kernel_rfl, rfl⟩); (· intro W g; simp [go_sem]; done); simp only [Act.put, List.setIfInBounds_toArray, List.set_cons_succ, List.set_cons_zero])
   | (refine lx_callg HI2.out ?_ ?_ ?_ ?_; (· kernel_rfl); (· exact ⟨by kernel_rfl, rfl⟩); (· intro W g; simp [go_sem]; done); simp only [Act.put, List.setIfInBounds_toArray, List.set_cons_succ, List.set_cons_zero]))
  simp only [List.drop_succ_cons, List.drop_zero]
  have r0 := HA0.out W0 GR
  go_wp2_with (go_at_call 42; refine (HM.out _ _ _).mono ?_; rintro e w3 ⟨rfl, rfl⟩; simp only [cond_true, cond_false])
  first
   | (go_ret; exact ⟨by rw [HR.out]; simp [ckE, Ck.ask, Ck.must, bind, Except.bind, HZ0.out, HZ1.out, HZ2.out], grown_trans HG.out GR⟩)
   | exact ⟨rfl, by rw [HR.out]; simp [ckE, Ck.ask, Ck.must, bind, Except.bind, HZ0.out, HZ1.out, HZ2.out], grown_trans HG.out GR⟩
theorem ckShift {N : Nat} {w : World} {SB : Nat} {c : Ck.En} {A : ScA} {loops nodes deep : Int} (h : Sc N w SB c A loops nodes deep) (op t n : Int) (s : ByteArray) (ax : Option Addr) (kx cx : Nat) {M : Nat} {aa : Option Addr} {ac : Nat} {l : List Int} (hk : l.length = 2) (hn : ∀ x, x ∈ l → 0 ≤ x ∧ x < (c.n : Int)) (hl : NumIn M w aa l.length ac (fun i => l.getD i 0)) (hop : n = 9 ∨ n = 10) : CkM 163 w SB op t n s ax kx cx aa l.length ac (Ck.ask c 6 t n l) := by
 obtain ⟨a0, a1, rfl, h0, h1⟩ := list2 hk hn
 obtain ⟨W1, B4, HW, HG, HF⟩ := ck_open h op t n s ax kx cx
 obtain ⟨ab, ao, rfl, HA, hac⟩ := nums_at (hl.grow HG.out) (by simp)
 have HA0 : Hid (∀ W, W1.grownBy W none → W.cell? ⟨ab, ao, none⟩ = some (.int .i64 (a0 : Int))) := fun W g => HA.out W g 0 (by simp)
 have HA1 : Hid (∀ W, W1.grownBy W none → W.cell? ⟨ab, ao + 1, none⟩ = some (.int .i64 (a1 : Int))) := fun W g => HA.out W g 1 (by simp)
 simp only [List.length_cons, List.length_nil, Nat.zero_add, Nat.reduceAdd] at hac
 clear HA hl hn hk
 have HM : Hid (∀ (b : Bool) (e : Int) W, Calls Tryz.prog 42 #[.bool b, .int .i64 e] W fun r w' => r = (bif b then .returned (.tuple #[]) else ckF e) ∧ w' = W) := ckMust_any
 obtain ⟨R, hR⟩ : ∃ R, R = ckE (Value.int .i64) (Ck.ask c 6 t n [(a0 : Int), (a1 : Int)]) := ⟨_, rfl⟩
 unfold CkM
 rw [← hR]
 have HR : Hid (R = ckE (Value.int .i64) (Ck.ask c 6 t n [(a0 : Int), (a1 : Int)])) := hR
 clear hR h
 obtain ⟨z0, hz_z0⟩ : ∃ z : Bool, z = Ck.intK c a0 := ⟨_, rfl⟩
 have HZ0 : Hid (Ck.intK c a0 = z0) := hz_z0.symm
 have HI : Hid (∀ W, W1.grownBy W none → Calls Tryz.prog 172 #[.agg #[.slice A.ea c.n A.ec, .slice A.va c.n A.vc], .int .i64 (a0 : Int)] W fun r w' => r = .returned (.bool z0) ∧ W.grownBy w' none) := fun W g => by rw [hz_z0]; exact ckInt_any (HF.out.sc W g).tb h0
 clear hz_z0
 obtain ⟨z1, hz_z1⟩ : ∃ z : Bool, z = Ck.intK c a1 := ⟨_, rfl⟩
 have HZ1 : Hid (Ck.intK c a1 = z1) := hz_z1.symm
 have HI1 : Hid (∀ W, W1.grownBy W none → Calls Tryz.prog 172 #[.agg #[.slice A.ea c.n A.ec, .slice A.va c.n A.vc], .int .i64 (a1 : Int)] W fun r w' => r = .returned (.bool z1) ∧ W.grownBy w' none) := fun W g => by rw [hz_z1]; exact ckInt_any (HF.out.sc W g).tb h1
 clear hz_z1
 cases z0
 all_goals cases z1
 all_goals
  go_enter Tryz.func163, Tryz.ntmps163
  go_wp2_with fail
  rw [HW.out.1, HW.out.2]
  refine region_lg 18 (World.grownBy.refl _ _) (by kernel_rfl) (by kernel_rfl) (by kernel_rfl) (by kernel_rfl) ?_
  simp only [List.take_succ_cons, List.take_zero]
  repeat (first
   | (refine lx_end fun W0 GR => ?_)
   | (refine lx_no ?_ ?_ ?_; (· simp [Region.wanted, yielded]; done); (· kernel_rfl); simp only [Act.put, List.setIfInBounds_toArray, List.set_cons_succ, List.set_cons_zero])
   | (refine lx_val (v := ?_) ?_ ?_ ?_ ?_; rotate_left; (· kernel_rfl); (· exact ⟨by kernel_rfl, rfl⟩); (· intro W g; simp [go_sem, HF.out.k0 W g, HF.out.k1 W g, HA0.out W g, HA1.out W g]; rfl); simp only [Act.put, List.setIfInBounds_toArray, List.set_cons_succ, List.set_cons_zero])
   | (refine lx_callg HI.out ?_ ?_ ?_ ?_; (· kernel_rfl); (· exact ⟨by kernel_rfl, rfl⟩); (· intro W g; simp [go_sem]; done); simp only [Act.put, List.setIfInBounds_toArray, List.set_cons_succ, List.set_cons_zero])
   | (refine lx_callg HI1.out ?_ ?_ ?_ ?_; (· kernel_rfl); (· exact ⟨by kernel_rfl, rfl⟩); (· intro W g; simp [go_sem]; done); simp only [Act.put, List.setIfInBounds_toArray, List.set_cons_succ, List.set_cons_zero]))
  simp only [List.drop_succ_cons, List.drop_zero]
  have r0 := HA0.out W0 GR
  go_wp2_with (go_at_call 42; refine (HM.out _ _ _).mono ?_; rintro e w3 ⟨rfl, rfl⟩; simp only [cond_true, cond_false])
  first
   | (go_ret; exact ⟨by rw [HR.out]; simp [ckE, Ck.ask, Ck.must, bind, Except.bind, hop, HZ0.out, HZ1.out], grown_trans HG.out GR⟩)
   | exact ⟨rfl, by rw [HR.out]; simp [ckE, Ck.ask, Ck.must, bind, Except.bind, hop, HZ0.out, HZ1.out], grown_trans HG.out GR⟩
theorem ckAnd {N : Nat} {w : World} {SB : Nat} {c : Ck.En} {A : ScA} {loops nodes deep : Int} (h : Sc N w SB c A loops nodes deep) (op t n : Int) (s : ByteArray) (ax : Option Addr) (kx cx : Nat) {M : Nat} {aa : Option Addr} {ac : Nat} {l : List Int} (hk : l.length = 2) (hn : ∀ x, x ∈ l → 0 ≤ x ∧ x < (c.n : Int)) (hl : NumIn M w aa l.length ac (fun i => l.getD i 0)) : CkM 119 w SB op t n s ax kx cx aa l.length ac (Ck.ask c 7 t n l) := by
 obtain ⟨a0, a1, rfl, h0, h1⟩ := list2 hk hn
 obtain ⟨W1, B4, HW, HG, HF⟩ := ck_open h op t n s ax kx cx
 obtain ⟨ab, ao, rfl, HA, hac⟩ := nums_at (hl.grow HG.out) (by simp)
 have HA0 : Hid (∀ W, W1.grownBy W none → W.cell? ⟨ab, ao, none⟩ = some (.int .i64 (a0 : Int))) := fun W g => HA.out W g 0 (by simp)
 have HA1 : Hid (∀ W, W1.grownBy W none → W.cell? ⟨ab, ao + 1, none⟩ = some (.int .i64 (a1 : Int))) := fun W g => HA.out W g 1 (by simp)
 simp only [List.length_cons, List.length_nil, Nat.zero_add, Nat.reduceAdd] at hac
 clear HA hl hn hk
 have HM : Hid (∀ (b : Bool) (e : Int) W, Calls Tryz.prog 42 #[.bool b, .int .i64 e] W fun r w' => r = (bif b then .returned (.tuple #[]) else ckF e) ∧ w' = W) := ckMust_any
 obtain ⟨R, hR⟩ : ∃ R, R = ckE (Value.int .i64) (Ck.ask c 7 t n [(a0 : Int), (a1 : Int)]) := ⟨_, rfl⟩
 unfold CkM
 rw [← hR]
 have HR : Hid (R = ckE (Value.int .i64) (Ck.ask c 7 t n [(a0 : Int), (a1 : Int)])) := hR
 clear hR h
 obtain ⟨z0, hz_z0⟩ : ∃ z : Bool, z = (Ck.kd c a0 == 1) := ⟨_, rfl⟩
 have HZ0 : Hid ((Ck.kd c a0 == 1) = z0) := hz_z0.symm
 have HI : Hid (∀ W, W1.grownBy W none → Calls Tryz.prog 165 #[.agg #[.slice A.ea c.n A.ec, .slice A.va c.n A.vc], .int .i64 (a0 : Int)] W fun r w' => r = .returned (.bool z0) ∧ W.grownBy w' none) := fun W g => by rw [hz_z0]; exact ckBool_any (HF.out.sc W g).tb h0
 clear hz_z0
 cases z0
 all_goals rcases Bool.eq_false_or_eq_true ((a0 : Int) == a1) with q0 | q0
 all_goals
  go_enter Tryz.func119, Tryz.ntmps119
  go_wp2_with fail
  rw [HW.out.1, HW.out.2]
  refine region_lg 17 (World.grownBy.refl _ _) (by kernel_rfl) (by kernel_rfl) (by kernel_rfl) (by kernel_rfl) ?_
  simp only [List.take_succ_cons, List.take_zero]
  repeat (first
   | (refine lx_end fun W0 GR => ?_)
   | (refine lx_no ?_ ?_ ?_; (· simp [Region.wanted, yielded]; done); (· kernel_rfl); simp only [Act.put, List.setIfInBounds_toArray, List.set_cons_succ, List.set_cons_zero])
   | (refine lx_val (v := ?_) ?_ ?_ ?_ ?_; rotate_left; (· kernel_rfl); (· exact ⟨by kernel_rfl, rfl⟩); (· intro W g; simp [go_sem, HF.out.k0 W g, HF.out.k1 W g, HA0.out W g, HA1.out W g, q0]; rfl); simp only [Act.put, List.setIfInBounds_toArray, List.set_cons_succ, List.set_cons_zero])
   | (refine lx_callg HI.out ?_ ?_ ?_ ?_; (· kernel_rfl); (· exact ⟨by kernel_rfl, rfl⟩); (· intro W g; simp [go_sem]; done); simp only [Act.put, List.setIfInBounds_toArray, List.set_cons_succ, List.set_cons_zero]))
  simp only [List.drop_succ_cons, List.drop_zero]
  have r0 := HA0.out W0 GR
  go_wp2_with (go_at_call 42; refine (HM.out _ _ _).mono ?_; rintro e w3 ⟨rfl, rfl⟩; simp only [cond_true, cond_false])
  first
   | (go_ret; exact ⟨by rw [HR.out]; simp [ckE, Ck.ask, Ck.must, bind, Except.bind, HZ0.out, q0], grown_trans HG.out GR⟩)
   | exact ⟨rfl, by rw [HR.out]; simp [ckE, Ck.ask, Ck.must, bind, Except.bind, HZ0.out, q0], grown_trans HG.out GR⟩
theorem ckOr {N : Nat} {w : World} {SB : Nat} {c : Ck.En} {A : ScA} {loops nodes deep : Int} (h : Sc N w SB c A loops nodes deep) (op t n : Int) (s : ByteArray) (ax : Option Addr) (kx cx : Nat) {M : Nat} {aa : Option Addr} {ac : Nat} {l : List Int} (hk : l.length = 2) (hn : ∀ x, x ∈ l → 0 ≤ x ∧ x < (c.n : Int)) (hl : NumIn M w aa l.length ac (fun i => l.getD i 0)) : CkM 119 w SB op t n s ax kx cx aa l.length ac (Ck.ask c 8 t n l) := by
 obtain ⟨a0, a1, rfl, h0, h1⟩ := list2 hk hn
 obtain ⟨W1, B4, HW, HG, HF⟩ := ck_open h op t n s ax kx cx
 obtain ⟨ab, ao, rfl, HA, hac⟩ := nums_at (hl.grow HG.out) (by simp)
 have HA0 : Hid (∀ W, W1.grownBy W none → W.cell? ⟨ab, ao, none⟩ = some (.int .i64 (a0 : Int))) := fun W g => HA.out W g 0 (by simp)
 have HA1 : Hid (∀ W, W1.grownBy W none → W.cell? ⟨ab, ao + 1, none⟩ = some (.int .i64 (a1 : Int))) := fun W g => HA.out W g 1 (by simp)
 simp only [List.length_cons, List.length_nil, Nat.zero_add, Nat.reduceAdd] at hac
 clear HA hl hn hk
 have HM : Hid (∀ (b : Bool) (e : Int) W, Calls Tryz.prog 42 #[.bool b, .int .i64 e] W fun r w' => r = (bif b then .returned (.tuple #[]) else ckF e) ∧ w' = W) := ckMust_any
 obtain ⟨R, hR⟩ : ∃ R, R = ckE (Value.int .i64) (Ck.ask c 8 t n [(a0 : Int), (a1 : Int)]) := ⟨_, rfl⟩
 unfold CkM
 rw [← hR]
 have HR : Hid (R = ckE (Value.int .i64) (Ck.ask c 8 t n [(a0 : Int), (a1 : Int)])) := hR
 clear hR h
 obtain ⟨z0, hz_z0⟩ : ∃ z : Bool, z = (Ck.kd c a0 == 1) := ⟨_, rfl⟩
 have HZ0 : Hid ((Ck.kd c a0 == 1) = z0) := hz_z0.symm
 have HI : Hid (∀ W, W1.grownBy W none → Calls Tryz.prog 165 #[.agg #[.slice A.ea c.n A.ec, .slice A.va c.n A.vc], .int .i64 (a0 : Int)] W fun r w' => r = .returned (.bool z0) ∧ W.grownBy w' none) := fun W g => by rw [hz_z0]; exact ckBool_any (HF.out.sc W g).tb h0
 clear hz_z0
 cases z0
 all_goals rcases Bool.eq_false_or_eq_true ((a0 : Int) == a1) with q0 | q0
 all_goals
  go_enter Tryz.func119, Tryz.ntmps119
  go_wp2_with fail
  rw [HW.out.1, HW.out.2]
  refine region_lg 17 (World.grownBy.refl _ _) (by kernel_rfl) (by kernel_rfl) (by kernel_rfl) (by kernel_rfl) ?_
  simp only [List.take_succ_cons, List.take_zero]
  repeat (first
   | (refine lx_end fun W0 GR => ?_)
   | (refine lx_no ?_ ?_ ?_; (· simp [Region.wanted, yielded]; done); (· kernel_rfl); simp only [Act.put, List.setIfInBounds_toArray, List.set_cons_succ, List.set_cons_zero])
   | (refine lx_val (v := ?_) ?_ ?_ ?_ ?_; rotate_left; (· kernel_rfl); (· exact ⟨by kernel_rfl, rfl⟩); (· intro W g; simp [go_sem, HF.out.k0 W g, HF.out.k1 W g, HA0.out W g, HA1.out W g, q0]; rfl); simp only [Act.put, List.setIfInBounds_toArray, List.set_cons_succ, List.set_cons_zero])
   | (refine lx_callg HI.out ?_ ?_ ?_ ?_; (· kernel_rfl); (· exact ⟨by kernel_rfl, rfl⟩); (· intro W g; simp [go_sem]; done); simp only [Act.put, List.setIfInBounds_toArray, List.set_cons_succ, List.set_cons_zero]))
  simp only [List.drop_succ_cons, List.drop_zero]
  have r0 := HA0.out W0 GR
  go_wp2_with (go_at_call 42; refine (HM.out _ _ _).mono ?_; rintro e w3 ⟨rfl, rfl⟩; simp only [cond_true, cond_false])
  first
   | (go_ret; exact ⟨by rw [HR.out]; simp [ckE, Ck.ask, Ck.must, bind, Except.bind, HZ0.out, q0], grown_trans HG.out GR⟩)
   | exact ⟨rfl, by rw [HR.out]; simp [ckE, Ck.ask, Ck.must, bind, Except.bind, HZ0.out, q0], grown_trans HG.out GR⟩
end Go.Proofs.YtpcgkggpmipiaaaGreat
