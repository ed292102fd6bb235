/- What statements ask of their Args' types, a method each. -/
import Derived.Test.YtpcgkggpmipiaaaGreatG18
import Derived.Test.YtpcgkggpmipiaaaGreatG15
namespace Go.Proofs.YtpcgkggpmipiaaaGreat
open Go.RowKit
set_option linter.unusedVariables false
set_option maxRecDepth 100000
set_option maxHeartbeats 4000000
theorem ckStore {N : Nat} {w : World} {SB : Nat} {c : Ck.En} {A : ScA} {lp : Nat} {nodes deep : Int} (h : Sc N w SB c A lp nodes deep) (op n : Int) (a1 : Option Addr) (m1 k1 : Nat) (a2 : Option Addr) (m2 k2 : Nat) (a3 : Option Addr) (m3 k3 : Nat) (a4 : Option Addr) (m4 k4 : Nat) {M : Nat} {aa : Option Addr} {ac : Nat} {l dst : List Int} (hk : l.length = 2) (hn : ∀ x, x ∈ l → 0 ≤ x ∧ x < (c.n : Int)) (hl : NumIn M w aa l.length ac (fun i => l.getD i 0)) : CkS 189 w SB (stV op n a1 m1 k1 a2 m2 k2 a3 m3 k3 a4 m4 k4) aa l.length ac (Ck.sask c lp 2 n dst l) := by
 obtain ⟨a0, b0, rfl, h0, h1⟩ := list2 hk hn
 obtain ⟨W1, B4, HW, HG, HF⟩ := ck_openS h op n a1 m1 k1 a2 m2 k2 a3 m3 k3 a4 m4 k4
 obtain ⟨ab, ao, rfl, HA, hac⟩ := nums_at (hl.grow HG.out) (by simp)
 have HA0 : Hid (∀ W, W1.grownBy W none → W.cell? ⟨ab, ao, none⟩ = some (.int .i64 (a0 : Int))) := fun W g => HA.out W g 0 (by simp)
 have HA1 : Hid (∀ W, W1.grownBy W none → W.cell? ⟨ab, ao + 1, none⟩ = some (.int .i64 (b0 : Int))) := fun W g => HA.out W g 1 (by simp)
 simp only [List.length_cons, List.length_nil, Nat.zero_add, Nat.reduceAdd] at hac
 clear HA hl hn hk
 have HM : Hid (∀ (b : Bool) (e : Int) W, Calls Tryz.prog 42 #[.bool b, .int .i64 e] W fun r w' => r = (bif b then .returned (.tuple #[]) else ckF e) ∧ w' = W) := ckMust_any
 obtain ⟨R, hR⟩ : ∃ R, R = ckE (fun _ => Value.tuple #[]) (Ck.sask c lp 2 n dst [(a0 : Int), (b0 : Int)]) := ⟨_, rfl⟩
 unfold CkS
 rw [← hR]
 have HR : Hid (R = ckE (fun _ => Value.tuple #[]) (Ck.sask c lp 2 n dst [(a0 : Int), (b0 : Int)])) := hR
 clear hR h
 obtain ⟨z, hz_z⟩ : ∃ z : Bool, z = Ck.ptr c a0 b0 := ⟨_, rfl⟩
 have HZ : Hid (Ck.ptr c a0 b0 = z) := hz_z.symm
 have HP : Hid (∀ W, W1.grownBy W none → Calls Tryz.prog 170 #[.agg #[.slice A.ea c.n A.ec, .slice A.va c.n A.vc], .int .i64 (a0 : Int), .int .i64 (b0 : Int)] W fun r w' => r = .returned (.bool z) ∧ W.grownBy w' none) := fun W g => by rw [hz_z]; exact ckPoints_any (HF.out.sc W g).tb h0 b0
 clear hz_z
 cases z
 case false =>
  go_enter Tryz.func189, Tryz.ntmps189
  go_wp2_with fail
  rw [HW.out.1, HW.out.2]
  refine region_lg 11 (World.grownBy.refl _ _) (by kernel_rfl) (by kernel_rfl) (by kernel_rfl) (by kernel_rfl) ?_
  simp only [List.take_succ_cons, List.take_zero]
  repeat (first
   | (refine lx_end fun W0 GR => ?_)
   | (refine lx_no ?_ ?_ ?_; (· simp [Region.wanted]; done); (· kernel_rfl); simp only [Act.put, List.setIfInBounds_toArray, List.set_cons_succ, List.set_cons_zero])
   | (refine lx_val (v := ?_) ?_ ?_ ?_ ?_; rotate_left; (· kernel_rfl); (· exact ⟨by kernel_rfl, rfl⟩); (· intro W g; simp [go_sem, HF.out.k0 W g, HF.out.k1 W g, HA0.out W g, HA1.out W g]; rfl); simp only [Act.put, List.setIfInBounds_toArray, List.set_cons_succ, List.set_cons_zero])
   | (refine lx_callg HP.out ?_ ?_ ?_ ?_; (· kernel_rfl); (· exact ⟨by kernel_rfl, rfl⟩); (· intro W g; simp [go_sem]; done); simp only [Act.put, List.setIfInBounds_toArray, List.set_cons_succ, List.set_cons_zero]))
  simp only [List.drop_succ_cons, List.drop_zero]
  go_wp2_with (go_at_call 42; refine (HM.out _ _ _).mono ?_; rintro e w3 ⟨rfl, hw3⟩; rw [hw3]; clear hw3 w3; simp only [cond_false])
  exact ⟨rfl, by rw [HR.out]; simp [ckE, Ck.sask, Ck.must, HZ.out], grown_trans HG.out GR⟩
 case true =>
  go_enter Tryz.func189, Tryz.ntmps189
  go_wp2_with fail
  rw [HW.out.1, HW.out.2]
  refine region_lg 11 (World.grownBy.refl _ _) (by kernel_rfl) (by kernel_rfl) (by kernel_rfl) (by kernel_rfl) ?_
  simp only [List.take_succ_cons, List.take_zero]
  repeat (first
   | (refine lx_end fun W0 GR => ?_)
   | (refine lx_no ?_ ?_ ?_; (· simp [Region.wanted]; done); (· kernel_rfl); simp only [Act.put, List.setIfInBounds_toArray, List.set_cons_succ, List.set_cons_zero])
   | (refine lx_val (v := ?_) ?_ ?_ ?_ ?_; rotate_left; (· kernel_rfl); (· exact ⟨by kernel_rfl, rfl⟩); (· intro W g; simp [go_sem, HF.out.k0 W g, HF.out.k1 W g, HA0.out W g, HA1.out W g]; rfl); simp only [Act.put, List.setIfInBounds_toArray, List.set_cons_succ, List.set_cons_zero])
   | (refine lx_callg HP.out ?_ ?_ ?_ ?_; (· kernel_rfl); (· exact ⟨by kernel_rfl, rfl⟩); (· intro W g; simp [go_sem]; done); simp only [Act.put, List.setIfInBounds_toArray, List.set_cons_succ, List.set_cons_zero]))
  simp only [List.drop_succ_cons, List.drop_zero]
  go_wp2_with (go_at_call 42; refine (HM.out _ _ _).mono ?_; rintro e w3 ⟨rfl, hw3⟩; rw [hw3]; clear hw3 w3; simp only [cond_true])
  go_end0
  exact ⟨by rw [HR.out]; simp [ckE, Ck.sask, Ck.must, HZ.out], grown_trans HG.out GR⟩
theorem ckChoice {N : Nat} {w : World} {SB : Nat} {c : Ck.En} {A : ScA} {lp : Nat} {nodes deep : Int} (h : Sc N w SB c A lp nodes deep) (op n : Int) (a1 : Option Addr) (m1 k1 : Nat) (a2 : Option Addr) (m2 k2 : Nat) (a3 : Option Addr) (m3 k3 : Nat) (a4 : Option Addr) (m4 k4 : Nat) {M : Nat} {aa : Option Addr} {ac : Nat} {l dst : List Int} (hk : l.length = 1) (hn : ∀ x, x ∈ l → 0 ≤ x ∧ x < (c.n : Int)) (hl : NumIn M w aa l.length ac (fun i => l.getD i 0)) : CkS 190 w SB (stV op n a1 m1 k1 a2 m2 k2 a3 m3 k3 a4 m4 k4) aa l.length ac (Ck.sask c lp 3 n dst l) := by
 obtain ⟨a0, rfl, h0⟩ := list1 hk hn
 obtain ⟨W1, B4, HW, HG, HF⟩ := ck_openS h op n a1 m1 k1 a2 m2 k2 a3 m3 k3 a4 m4 k4
 obtain ⟨ab, ao, rfl, HA, hac⟩ := nums_at (hl.grow HG.out) (by simp)
 have HA0 : Hid (∀ W, W1.grownBy W none → W.cell? ⟨ab, ao, none⟩ = some (.int .i64 (a0 : Int))) := fun W g => HA.out W g 0 (by simp)
 simp only [List.length_cons, List.length_nil, Nat.zero_add] at hac
 clear HA hl hn hk
 have HM : Hid (∀ (b : Bool) (e : Int) W, Calls Tryz.prog 42 #[.bool b, .int .i64 e] W fun r w' => r = (bif b then .returned (.tuple #[]) else ckF e) ∧ w' = W) := ckMust_any
 obtain ⟨R, hR⟩ : ∃ R, R = ckE (fun _ => Value.tuple #[]) (Ck.sask c lp 3 n dst [(a0 : Int)]) := ⟨_, rfl⟩
 unfold CkS
 rw [← hR]
 have HR : Hid (R = ckE (fun _ => Value.tuple #[]) (Ck.sask c lp 3 n dst [(a0 : Int)])) := hR
 clear hR h
 obtain ⟨z, hz_z⟩ : ∃ z : Bool, z = (Ck.kd c a0 == 1) := ⟨_, rfl⟩
 have HZ : Hid ((Ck.kd c a0 == 1) = z) := hz_z.symm
 have HI : Hid (∀ W, W1.grownBy W none → Calls Tryz.prog 165 #[.agg #[.slice A.ea c.n A.ec, .slice A.va c.n A.vc], .int .i64 (a0 : Int)] W fun r w' => r = .returned (.bool z) ∧ W.grownBy w' none) := fun W g => by rw [hz_z]; exact ckBool_any (HF.out.sc W g).tb h0
 clear hz_z
 cases z
 case false =>
  go_enter Tryz.func190, Tryz.ntmps190
  go_wp2_with fail
  rw [HW.out.1, HW.out.2]
  refine region_lg 8 (World.grownBy.refl _ _) (by kernel_rfl) (by kernel_rfl) (by kernel_rfl) (by kernel_rfl) ?_
  simp only [List.take_succ_cons, List.take_zero]
  repeat (first
   | (refine lx_end fun W0 GR => ?_)
   | (refine lx_no ?_ ?_ ?_; (· simp [Region.wanted]; done); (· kernel_rfl); simp only [Act.put, List.setIfInBounds_toArray, List.set_cons_succ, List.set_cons_zero])
   | (refine lx_val (v := ?_) ?_ ?_ ?_ ?_; rotate_left; (· kernel_rfl); (· exact ⟨by kernel_rfl, rfl⟩); (· intro W g; simp [go_sem, HF.out.k0 W g, HF.out.k1 W g, HA0.out W g]; rfl); simp only [Act.put, List.setIfInBounds_toArray, List.set_cons_succ, List.set_cons_zero])
   | (refine lx_callg HI.out ?_ ?_ ?_ ?_; (· kernel_rfl); (· exact ⟨by kernel_rfl, rfl⟩); (· intro W g; simp [go_sem]; done); simp only [Act.put, List.setIfInBounds_toArray, List.set_cons_succ, List.set_cons_zero]))
  simp only [List.drop_succ_cons, List.drop_zero]
  go_wp2_with (go_at_call 42; refine (HM.out _ _ _).mono ?_; rintro e w3 ⟨rfl, hw3⟩; rw [hw3]; clear hw3 w3; simp only [cond_false])
  exact ⟨rfl, by rw [HR.out]; simp [ckE, Ck.sask, Ck.must, HZ.out], grown_trans HG.out GR⟩
 case true =>
  go_enter Tryz.func190, Tryz.ntmps190
  go_wp2_with fail
  rw [HW.out.1, HW.out.2]
  refine region_lg 8 (World.grownBy.refl _ _) (by kernel_rfl) (by kernel_rfl) (by kernel_rfl) (by kernel_rfl) ?_
  simp only [List.take_succ_cons, List.take_zero]
  repeat (first
   | (refine lx_end fun W0 GR => ?_)
   | (refine lx_no ?_ ?_ ?_; (· simp [Region.wanted]; done); (· kernel_rfl); simp only [Act.put, List.setIfInBounds_toArray, List.set_cons_succ, List.set_cons_zero])
   | (refine lx_val (v := ?_) ?_ ?_ ?_ ?_; rotate_left; (· kernel_rfl); (· exact ⟨by kernel_rfl, rfl⟩); (· intro W g; simp [go_sem, HF.out.k0 W g, HF.out.k1 W g, HA0.out W g]; rfl); simp only [Act.put, List.setIfInBounds_toArray, List.set_cons_succ, List.set_cons_zero])
   | (refine lx_callg HI.out ?_ ?_ ?_ ?_; (· kernel_rfl); (· exact ⟨by kernel_rfl, rfl⟩); (· intro W g; simp [go_sem]; done); simp only [Act.put, List.setIfInBounds_toArray, List.set_cons_succ, List.set_cons_zero]))
  simp only [List.drop_succ_cons, List.drop_zero]
  go_wp2_with (go_at_call 42; refine (HM.out _ _ _).mono ?_; rintro e w3 ⟨rfl, hw3⟩; rw [hw3]; clear hw3 w3; simp only [cond_true])
  go_end0
  exact ⟨by rw [HR.out]; simp [ckE, Ck.sask, Ck.must, HZ.out], grown_trans HG.out GR⟩
theorem ckEmit {N : Nat} {w : World} {SB : Nat} {c : Ck.En} {A : ScA} {lp : Nat} {nodes deep : Int} (h : Sc N w SB c A lp nodes deep) (op n : Int) (a1 : Option Addr) (m1 k1 : Nat) (a2 : Option Addr) (m2 k2 : Nat) (a3 : Option Addr) (m3 k3 : Nat) (a4 : Option Addr) (m4 k4 : Nat) {M : Nat} {aa : Option Addr} {ac : Nat} {l dst : List Int} (hk : l.length = 1) (hn : ∀ x, x ∈ l → 0 ≤ x ∧ x < (c.n : Int)) (hl : NumIn M w aa l.length ac (fun i => l.getD i 0)) : CkS 194 w SB (stV op n a1 m1 k1 a2 m2 k2 a3 m3 k3 a4 m4 k4) aa l.length ac (Ck.sask c lp 8 n dst l) := by
 obtain ⟨a0, rfl, h0⟩ := list1 hk hn
 obtain ⟨W1, B4, HW, HG, HF⟩ := ck_openS h op n a1 m1 k1 a2 m2 k2 a3 m3 k3 a4 m4 k4
 obtain ⟨ab, ao, rfl, HA, hac⟩ := nums_at (hl.grow HG.out) (by simp)
 have HA0 : Hid (∀ W, W1.grownBy W none → W.cell? ⟨ab, ao, none⟩ = some (.int .i64 (a0 : Int))) := fun W g => HA.out W g 0 (by simp)
 simp only [List.length_cons, List.length_nil, Nat.zero_add] at hac
 clear HA hl hn hk
 have HM : Hid (∀ (b : Bool) (e : Int) W, Calls Tryz.prog 42 #[.bool b, .int .i64 e] W fun r w' => r = (bif b then .returned (.tuple #[]) else ckF e) ∧ w' = W) := ckMust_any
 obtain ⟨R, hR⟩ : ∃ R, R = ckE (fun _ => Value.tuple #[]) (Ck.sask c lp 8 n dst [(a0 : Int)]) := ⟨_, rfl⟩
 unfold CkS
 rw [← hR]
 have HR : Hid (R = ckE (fun _ => Value.tuple #[]) (Ck.sask c lp 8 n dst [(a0 : Int)])) := hR
 clear hR h
 obtain ⟨z, hz_z⟩ : ∃ z : Bool, z = Ck.plainK c a0 := ⟨_, rfl⟩
 have HZ : Hid (Ck.plainK c a0 = z) := hz_z.symm
 have HI : Hid (∀ W, W1.grownBy W none → Calls Tryz.prog 94 #[.agg #[.slice A.ea c.n A.ec, .slice A.va c.n A.vc], .int .i64 (a0 : Int)] W fun r w' => r = .returned (.bool z) ∧ W.grownBy w' none) := fun W g => by rw [hz_z]; exact ckPlain_any (HF.out.sc W g).tb h0
 clear hz_z
 cases z
 case false =>
  go_enter Tryz.func194, Tryz.ntmps194
  go_wp2_with fail
  rw [HW.out.1, HW.out.2]
  refine region_lg 8 (World.grownBy.refl _ _) (by kernel_rfl) (by kernel_rfl) (by kernel_rfl) (by kernel_rfl) ?_
  simp only [List.take_succ_cons, List.take_zero]
  repeat (first
   | (refine lx_end fun W0 GR => ?_)
   | (refine lx_no ?_ ?_ ?_; (· simp [Region.wanted]; done); (· kernel_rfl); simp only [Act.put, List.setIfInBounds_toArray, List.set_cons_succ, List.set_cons_zero])
   | (refine lx_val (v := ?_) ?_ ?_ ?_ ?_; rotate_left; (· kernel_rfl); (· exact ⟨by kernel_rfl, rfl⟩); (· intro W g; simp [go_sem, HF.out.k0 W g, HF.out.k1 W g, HA0.out W g]; rfl); simp only [Act.put, List.setIfInBounds_toArray, List.set_cons_succ, List.set_cons_zero])
   | (refine lx_callg HI.out ?_ ?_ ?_ ?_; (· kernel_rfl); (· exact ⟨by kernel_rfl, rfl⟩); (· intro W g; simp [go_sem]; done); simp only [Act.put, List.setIfInBounds_toArray, List.set_cons_succ, List.set_cons_zero]))
  simp only [List.drop_succ_cons, List.drop_zero]
  go_wp2_with (go_at_call 42; refine (HM.out _ _ _).mono ?_; rintro e w3 ⟨rfl, hw3⟩; rw [hw3]; clear hw3 w3; simp only [cond_false])
  exact ⟨rfl, by rw [HR.out]; simp [ckE, Ck.sask, Ck.must, HZ.out], grown_trans HG.out GR⟩
 case true =>
  go_enter Tryz.func194, Tryz.ntmps194
  go_wp2_with fail
  rw [HW.out.1, HW.out.2]
  refine region_lg 8 (World.grownBy.refl _ _) (by kernel_rfl) (by kernel_rfl) (by kernel_rfl) (by kernel_rfl) ?_
  simp only [List.take_succ_cons, List.take_zero]
  repeat (first
   | (refine lx_end fun W0 GR => ?_)
   | (refine lx_no ?_ ?_ ?_; (· simp [Region.wanted]; done); (· kernel_rfl); simp only [Act.put, List.setIfInBounds_toArray, List.set_cons_succ, List.set_cons_zero])
   | (refine lx_val (v := ?_) ?_ ?_ ?_ ?_; rotate_left; (· kernel_rfl); (· exact ⟨by kernel_rfl, rfl⟩); (· intro W g; simp [go_sem, HF.out.k0 W g, HF.out.k1 W g, HA0.out W g]; rfl); simp only [Act.put, List.setIfInBounds_toArray, List.set_cons_succ, List.set_cons_zero])
   | (refine lx_callg HI.out ?_ ?_ ?_ ?_; (· kernel_rfl); (· exact ⟨by kernel_rfl, rfl⟩); (· intro W g; simp [go_sem]; done); simp only [Act.put, List.setIfInBounds_toArray, List.set_cons_succ, List.set_cons_zero]))
  simp only [List.drop_succ_cons, List.drop_zero]
  go_wp2_with (go_at_call 42; refine (HM.out _ _ _).mono ?_; rintro e w3 ⟨rfl, hw3⟩; rw [hw3]; clear hw3 w3; simp only [cond_true])
  go_end0
  exact ⟨by rw [HR.out]; simp [ckE, Ck.sask, Ck.must, HZ.out], grown_trans HG.out GR⟩
theorem ckBreak {N : Nat} {w : World} {SB : Nat} {c : Ck.En} {A : ScA} {lp : Nat} {nodes deep : Int} (h : Sc N w SB c A lp nodes deep) (op n : Int) (a1 : Option Addr) (m1 k1 : Nat) (a2 : Option Addr) (m2 k2 : Nat) (a3 : Option Addr) (m3 k3 : Nat) (a4 : Option Addr) (m4 k4 : Nat) {M : Nat} {aa : Option Addr} {ac : Nat} {l dst : List Int} (hk : l.length = 0) (hn : ∀ x, x ∈ l → 0 ≤ x ∧ x < (c.n : Int)) (hl : NumIn M w aa l.length ac (fun i => l.getD i 0)) (hlp : lp < 9000000000000000000) : CkS 192 w SB (stV op n a1 m1 k1 a2 m2 k2 a3 m3 k3 a4 m4 k4) aa l.length ac (Ck.sask c lp 5 n dst l) := by
 obtain rfl : l = [] := List.length_eq_zero_iff.1 hk
 obtain ⟨W1, B4, HW, HG, HF⟩ := ck_openS h op n a1 m1 k1 a2 m2 k2 a3 m3 k3 a4 m4 k4
 clear hl hn
 have HM : Hid (∀ (b : Bool) (e : Int) W, Calls Tryz.prog 42 #[.bool b, .int .i64 e] W fun r w' => r = (bif b then .returned (.tuple #[]) else ckF e) ∧ w' = W) := ckMust_any
 obtain ⟨R, hR⟩ : ∃ R, R = ckE (fun _ => Value.tuple #[]) (Ck.sask c lp 5 n dst []) := ⟨_, rfl⟩
 unfold CkS
 rw [← hR]
 have HR : Hid (R = ckE (fun _ => Value.tuple #[]) (Ck.sask c lp 5 n dst [])) := hR
 clear hR h
 obtain ⟨z, hz_z⟩ : ∃ z : Bool, z = Ty.nmB lp n := ⟨_, rfl⟩
 have HZ : Hid (Ty.nmB lp n = z) := hz_z.symm
 have HN : Hid (∀ W, W1.grownBy W none → Calls Tryz.prog 160 #[.int .i64 (lp : Int), .int .i64 n] W fun r w' => r = .returned (.bool z) ∧ W.grownBy w' none) := fun W g => (ckNum64_any _ _ W (by omega)).mono fun r w' ⟨hr, hw⟩ => ⟨by rw [hr, hz_z], by rw [hw]; exact World.grownBy.refl _ _⟩
 clear hz_z
 cases z
 case false =>
  go_enter Tryz.func192, Tryz.ntmps192
  go_wp2_with fail
  rw [HW.out.1, HW.out.2]
  refine region_lg 7 (World.grownBy.refl _ _) (by kernel_rfl) (by kernel_rfl) (by kernel_rfl) (by kernel_rfl) ?_
  simp only [List.take_succ_cons, List.take_zero]
  repeat (first
   | (refine lx_end fun W0 GR => ?_)
   | (refine lx_no ?_ ?_ ?_; (· simp [Region.wanted]; done); (· kernel_rfl); simp only [Act.put, List.setIfInBounds_toArray, List.set_cons_succ, List.set_cons_zero])
   | (refine lx_val (v := ?_) ?_ ?_ ?_ ?_; rotate_left; (· kernel_rfl); (· exact ⟨by kernel_rfl, rfl⟩); (· intro W g; simp [go_sem, HF.out.x1 W g, HF.out.k7 W g]; rfl); simp only [Act.put, List.setIfInBounds_toArray, List.set_cons_succ, List.set_cons_zero])
   | (refine lx_callg HN.out ?_ ?_ ?_ ?_; (· kernel_rfl); (· exact ⟨by kernel_rfl, rfl⟩); (· intro W g; simp [go_sem]; done); simp only [Act.put, List.setIfInBounds_toArray, List.set_cons_succ, List.set_cons_zero]))
  simp only [List.drop_succ_cons, List.drop_zero]
  go_wp2_with (go_at_call 42; refine (HM.out _ _ _).mono ?_; rintro e w3 ⟨rfl, hw3⟩; rw [hw3]; clear hw3 w3; simp only [cond_false])
  exact ⟨rfl, by rw [HR.out]; simp [ckE, Ck.sask, Ck.must, HZ.out], grown_trans HG.out GR⟩
 case true =>
  go_enter Tryz.func192, Tryz.ntmps192
  go_wp2_with fail
  rw [HW.out.1, HW.out.2]
  refine region_lg 7 (World.grownBy.refl _ _) (by kernel_rfl) (by kernel_rfl) (by kernel_rfl) (by kernel_rfl) ?_
  simp only [List.take_succ_cons, List.take_zero]
  repeat (first
   | (refine lx_end fun W0 GR => ?_)
   | (refine lx_no ?_ ?_ ?_; (· simp [Region.wanted]; done); (· kernel_rfl); simp only [Act.put, List.setIfInBounds_toArray, List.set_cons_succ, List.set_cons_zero])
   | (refine lx_val (v := ?_) ?_ ?_ ?_ ?_; rotate_left; (· kernel_rfl); (· exact ⟨by kernel_rfl, rfl⟩); (· intro W g; simp [go_sem, HF.out.x1 W g, HF.out.k7 W g]; rfl); simp only [Act.put, List.setIfInBounds_toArray, List.set_cons_succ, List.set_cons_zero])
   | (refine lx_callg HN.out ?_ ?_ ?_ ?_; (· kernel_rfl); (· exact ⟨by kernel_rfl, rfl⟩); (· intro W g; simp [go_sem]; done); simp only [Act.put, List.setIfInBounds_toArray, List.set_cons_succ, List.set_cons_zero]))
  simp only [List.drop_succ_cons, List.drop_zero]
  go_wp2_with (go_at_call 42; refine (HM.out _ _ _).mono ?_; rintro e w3 ⟨rfl, hw3⟩; rw [hw3]; clear hw3 w3; simp only [cond_true])
  go_end0
  exact ⟨by rw [HR.out]; simp [ckE, Ck.sask, Ck.must, HZ.out], grown_trans HG.out GR⟩
theorem ckContinue {N : Nat} {w : World} {SB : Nat} {c : Ck.En} {A : ScA} {lp : Nat} {nodes deep : Int} (h : Sc N w SB c A lp nodes deep) (op n : Int) (a1 : Option Addr) (m1 k1 : Nat) (a2 : Option Addr) (m2 k2 : Nat) (a3 : Option Addr) (m3 k3 : Nat) (a4 : Option Addr) (m4 k4 : Nat) {M : Nat} {aa : Option Addr} {ac : Nat} {l dst : List Int} (hk : l.length = 0) (hn : ∀ x, x ∈ l → 0 ≤ x ∧ x < (c.n : Int)) (hl : NumIn M w aa l.length ac (fun i => l.getD i 0)) (hlp : lp < 9000000000000000000) : CkS 192 w SB (stV op n a1 m1 k1 a2 m2 k2 a3 m3 k3 a4 m4 k4) aa l.length ac (Ck.sask c lp 6 n dst l) := by
 obtain rfl : l = [] := List.length_eq_zero_iff.1 hk
 obtain ⟨W1, B4, HW, HG, HF⟩ := ck_openS h op n a1 m1 k1 a2 m2 k2 a3 m3 k3 a4 m4 k4
 clear hl hn
 have HM : Hid (∀ (b : Bool) (e : Int) W, Calls Tryz.prog 42 #[.bool b, .int .i64 e] W fun r w' => r = (bif b then .returned (.tuple #[]) else ckF e) ∧ w' = W) := ckMust_any
 obtain ⟨R, hR⟩ : ∃ R, R = ckE (fun _ => Value.tuple #[]) (Ck.sask c lp 6 n dst []) := ⟨_, rfl⟩
 unfold CkS
 rw [← hR]
 have HR : Hid (R = ckE (fun _ => Value.tuple #[]) (Ck.sask c lp 6 n dst [])) := hR
 clear hR h
 obtain ⟨z, hz_z⟩ : ∃ z : Bool, z = Ty.nmB lp n := ⟨_, rfl⟩
 have HZ : Hid (Ty.nmB lp n = z) := hz_z.symm
 have HN : Hid (∀ W, W1.grownBy W none → Calls Tryz.prog 160 #[.int .i64 (lp : Int), .int .i64 n] W fun r w' => r = .returned (.bool z) ∧ W.grownBy w' none) := fun W g => (ckNum64_any _ _ W (by omega)).mono fun r w' ⟨hr, hw⟩ => ⟨by rw [hr, hz_z], by rw [hw]; exact World.grownBy.refl _ _⟩
 clear hz_z
 cases z
 case false =>
  go_enter Tryz.func192, Tryz.ntmps192
  go_wp2_with fail
  rw [HW.out.1, HW.out.2]
  refine region_lg 7 (World.grownBy.refl _ _) (by kernel_rfl) (by kernel_rfl) (by kernel_rfl) (by kernel_rfl) ?_
  simp only [List.take_succ_cons, List.take_zero]
  repeat (first
   | (refine lx_end fun W0 GR => ?_)
   | (refine lx_no ?_ ?_ ?_; (· simp [Region.wanted]; done); (· kernel_rfl); simp only [Act.put, List.setIfInBounds_toArray, List.set_cons_succ, List.set_cons_zero])
   | (refine lx_val (v := ?_) ?_ ?_ ?_ ?_; rotate_left; (· kernel_rfl); (· exact ⟨by kernel_rfl, rfl⟩); (· intro W g; simp [go_sem, HF.out.x1 W g, HF.out.k7 W g]; rfl); simp only [Act.put, List.setIfInBounds_toArray, List.set_cons_succ, List.set_cons_zero])
   | (refine lx_callg HN.out ?_ ?_ ?_ ?_; (· kernel_rfl); (· exact ⟨by kernel_rfl, rfl⟩); (· intro W g; simp [go_sem]; done); simp only [Act.put, List.setIfInBounds_toArray, List.set_cons_succ, List.set_cons_zero]))
  simp only [List.drop_succ_cons, List.drop_zero]
  go_wp2_with (go_at_call 42; refine (HM.out _ _ _).mono ?_; rintro e w3 ⟨rfl, hw3⟩; rw [hw3]; clear hw3 w3; simp only [cond_false])
  exact ⟨rfl, by rw [HR.out]; simp [ckE, Ck.sask, Ck.must, HZ.out], grown_trans HG.out GR⟩
 case true =>
  go_enter Tryz.func192, Tryz.ntmps192
  go_wp2_with fail
  rw [HW.out.1, HW.out.2]
  refine region_lg 7 (World.grownBy.refl _ _) (by kernel_rfl) (by kernel_rfl) (by kernel_rfl) (by kernel_rfl) ?_
  simp only [List.take_succ_cons, List.take_zero]
  repeat (first
   | (refine lx_end fun W0 GR => ?_)
   | (refine lx_no ?_ ?_ ?_; (· simp [Region.wanted]; done); (· kernel_rfl); simp only [Act.put, List.setIfInBounds_toArray, List.set_cons_succ, List.set_cons_zero])
   | (refine lx_val (v := ?_) ?_ ?_ ?_ ?_; rotate_left; (· kernel_rfl); (· exact ⟨by kernel_rfl, rfl⟩); (· intro W g; simp [go_sem, HF.out.x1 W g, HF.out.k7 W g]; rfl); simp only [Act.put, List.setIfInBounds_toArray, List.set_cons_succ, List.set_cons_zero])
   | (refine lx_callg HN.out ?_ ?_ ?_ ?_; (· kernel_rfl); (· exact ⟨by kernel_rfl, rfl⟩); (· intro W g; simp [go_sem]; done); simp only [Act.put, List.setIfInBounds_toArray, List.set_cons_succ, List.set_cons_zero]))
  simp only [List.drop_succ_cons, List.drop_zero]
  go_wp2_with (go_at_call 42; refine (HM.out _ _ _).mono ?_; rintro e w3 ⟨rfl, hw3⟩; rw [hw3]; clear hw3 w3; simp only [cond_true])
  go_end0
  exact ⟨by rw [HR.out]; simp [ckE, Ck.sask, Ck.must, HZ.out], grown_trans HG.out GR⟩
theorem ckUserPanic {N : Nat} {w : World} {SB : Nat} {c : Ck.En} {A : ScA} {lp : Nat} {nodes deep : Int} (h : Sc N w SB c A lp nodes deep) (op n : Int) (a1 : Option Addr) (m1 k1 : Nat) (a2 : Option Addr) (m2 k2 : Nat) (a3 : Option Addr) (m3 k3 : Nat) (a4 : Option Addr) (m4 k4 : Nat) {M : Nat} {aa : Option Addr} {ac : Nat} {l dst : List Int} (hk : l.length = 0) (hn : ∀ x, x ∈ l → 0 ≤ x ∧ x < (c.n : Int)) (hl : NumIn M w aa l.length ac (fun i => l.getD i 0)) : CkS 195 w SB (stV op n a1 m1 k1 a2 m2 k2 a3 m3 k3 a4 m4 k4) aa l.length ac (Ck.sask c lp 9 n dst l) := by
 obtain rfl : l = [] := List.length_eq_zero_iff.1 hk
 obtain ⟨W1, B4, HW, HG, HF⟩ := ck_openS h op n a1 m1 k1 a2 m2 k2 a3 m3 k3 a4 m4 k4
 clear hl hn
 have HM : Hid (∀ (b : Bool) (e : Int) W, Calls Tryz.prog 42 #[.bool b, .int .i64 e] W fun r w' => r = (bif b then .returned (.tuple #[]) else ckF e) ∧ w' = W) := ckMust_any
 obtain ⟨R, hR⟩ : ∃ R, R = ckE (fun _ => Value.tuple #[]) (Ck.sask c lp 9 n dst []) := ⟨_, rfl⟩
 unfold CkS
 rw [← hR]
 have HR : Hid (R = ckE (fun _ => Value.tuple #[]) (Ck.sask c lp 9 n dst [])) := hR
 clear hR h
 obtain ⟨z, hz_z⟩ : ∃ z : Bool, z = Ty.nmB 256 n := ⟨_, rfl⟩
 have HZ : Hid (Ty.nmB 256 n = z) := hz_z.symm
 have HN : Hid (∀ W, Calls Tryz.prog 160 #[.int .i64 256, .int .i64 n] W fun r w' => r = .returned (.bool z) ∧ w' = W) := fun W => by rw [hz_z]; exact ckNum64_any 256 n W (by omega)
 clear hz_z
 have r1 := HF.out.x1 W1 (World.grownBy.refl _ _)
 rw [← HW.out.1, ← HW.out.2] at r1
 cases z
 case false =>
  go_enter Tryz.func195, Tryz.ntmps195
  go_wp2_with (first | (go_at_call 42; refine (HM.out _ _ _).mono ?_; rintro e w3 ⟨rfl, hw3⟩; rw [hw3]; clear hw3 w3; simp only [cond_false]) | (go_at_call 160; refine (HN.out _).mono ?_; rintro e w6 ⟨rfl, hw6⟩; rw [hw6]; clear hw6 w6))
  exact ⟨rfl, by rw [HR.out]; simp [ckE, Ck.sask, Ck.must, HZ.out], by rw [HW.out.1]; exact HG.out⟩
 case true =>
  go_enter Tryz.func195, Tryz.ntmps195
  go_wp2_with (first | (go_at_call 42; refine (HM.out _ _ _).mono ?_; rintro e w3 ⟨rfl, hw3⟩; rw [hw3]; clear hw3 w3; simp only [cond_true]) | (go_at_call 160; refine (HN.out _).mono ?_; rintro e w6 ⟨rfl, hw6⟩; rw [hw6]; clear hw6 w6))
  go_end0
  exact ⟨by rw [HR.out]; simp [ckE, Ck.sask, Ck.must, HZ.out], by rw [HW.out.1]; exact HG.out⟩
theorem ckLoop {N : Nat} {w : World} {SB : Nat} {c : Ck.En} {A : ScA} {lp : Nat} {nodes deep : Int} (h : Sc N w SB c A lp nodes deep) (op n : Int) (a1 : Option Addr) (m1 k1 : Nat) (a2 : Option Addr) (m2 k2 : Nat) (a3 : Option Addr) (m3 k3 : Nat) (a4 : Option Addr) (m4 k4 : Nat) {M : Nat} {aa : Option Addr} {ac : Nat} {l dst : List Int} (hk : l.length = 0) (hn : ∀ x, x ∈ l → 0 ≤ x ∧ x < (c.n : Int)) (hl : NumIn M w aa l.length ac (fun i => l.getD i 0)) : CkS 191 w SB (stV op n a1 m1 k1 a2 m2 k2 a3 m3 k3 a4 m4 k4) aa l.length ac (Ck.sask c lp 4 n dst l) := by
 obtain rfl : l = [] := List.length_eq_zero_iff.1 hk
 obtain ⟨W1, B4, HW, HG, HF⟩ := ck_openS h op n a1 m1 k1 a2 m2 k2 a3 m3 k3 a4 m4 k4
 clear hl hn
 have HM : Hid (∀ (b : Bool) (e : Int) W, Calls Tryz.prog 42 #[.bool b, .int .i64 e] W fun r w' => r = (bif b then .returned (.tuple #[]) else ckF e) ∧ w' = W) := ckMust_any
 obtain ⟨R, hR⟩ : ∃ R, R = ckE (fun _ => Value.tuple #[]) (Ck.sask c lp 4 n dst []) := ⟨_, rfl⟩
 unfold CkS
 rw [← hR]
 have HR : Hid (R = ckE (fun _ => Value.tuple #[]) (Ck.sask c lp 4 n dst [])) := hR
 clear hR h
 go_enter Tryz.func191, Tryz.ntmps191
 go_wp2
 go_end0
 exact ⟨by rw [HR.out]; rfl, World.grownBy_alloc _ _ _⟩
theorem ckGiveBack {N : Nat} {w : World} {SB : Nat} {c : Ck.En} {A : ScA} {lp : Nat} {nodes deep : Int} (h : Sc N w SB c A lp nodes deep) (op n : Int) (a1 : Option Addr) (m1 k1 : Nat) (a2 : Option Addr) (m2 k2 : Nat) (a3 : Option Addr) (m3 k3 : Nat) (a4 : Option Addr) (m4 k4 : Nat) {M : Nat} {aa : Option Addr} {ac : Nat} {l dst : List Int} (hn : ∀ x, x ∈ l → 0 ≤ x ∧ x < (c.n : Int)) (hl : NumIn M w aa l.length ac (fun i => l.getD i 0)) : CkS 193 w SB (stV op n a1 m1 k1 a2 m2 k2 a3 m3 k3 a4 m4 k4) aa l.length ac (Ck.sask c lp 7 n dst l) := by
 obtain ⟨W1, B4, HW, HG, HF⟩ := ck_openS h op n a1 m1 k1 a2 m2 k2 a3 m3 k3 a4 m4 k4
 have HM : Hid (∀ (b : Bool) (e : Int) W, Calls Tryz.prog 42 #[.bool b, .int .i64 e] W fun r w' => r = (bif b then .returned (.tuple #[]) else ckF e) ∧ w' = W) := ckMust_any
 obtain ⟨R, hR⟩ : ∃ R, R = ckE (fun _ => Value.tuple #[]) (Ck.sask c lp 7 n dst l) := ⟨_, rfl⟩
 unfold CkS
 rw [← hR]
 have HR : Hid (R = ckE (fun _ => Value.tuple #[]) (Ck.sask c lp 7 n dst l)) := hR
 clear hR h
 have hlx := hl.max
 have hlc := hl.le
 unfold maxLen at hlx
 have hrm := (HF.out.sc W1 (World.grownBy.refl _ _)).re.max
 have hrl := (HF.out.sc W1 (World.grownBy.refl _ _)).re.le
 unfold maxLen at hrm
 obtain ⟨ze, hz_ze⟩ : ∃ z : Bool, z = (l == c.f.results) := ⟨_, rfl⟩
 have HZe : Hid ((l == c.f.results) = ze) := hz_ze.symm
 have HE : Hid (∀ W, W1.grownBy W none → Calls Tryz.prog 168 #[.slice aa l.length ac, .slice A.ra c.f.results.length A.rc] W fun r w' => r = .returned (.bool ze) ∧ W.grownBy w' none) := fun W g => by rw [hz_ze]; exact ckEqual_any ((hl.grow HG.out).grow g) (HF.out.sc W g).re
 clear hz_ze hl hn
 have r5 := HF.out.k5 W1 (World.grownBy.refl _ _)
 rw [← HW.out.1] at r5
 rcases Bool.eq_false_or_eq_true (l.length == c.f.results.length) with qn | qn
 ·skip
  cases ze
  case false =>
   have qn3 : l.length = c.f.results.length := by simpa using qn
   have qn2 : ((l.length : Int) == c.f.results.length) = true := by simp; omega
   have QN : Hid (l.length = c.f.results.length) := qn3
   clear qn3 qn
   go_enter Tryz.func193, Tryz.ntmps193
   go_wp2_with (first | (go_at_call 42; refine (HM.out _ _ _).mono ?_; rintro e w3 ⟨rfl, hw3⟩; rw [hw3]; clear hw3 w3; simp only [cond_true, cond_false]) | (go_at_call 168; rw [HW.out.1]; refine (HE.out _ (World.grownBy.refl _ _)).mono ?_; rintro e w7 ⟨rfl, hg7⟩; have HG7 : Hid (W1.grownBy w7 none) := hg7; clear hg7))
   exact ⟨rfl, by rw [HR.out]; simp [ckE, Ck.sask, Ck.must, bind, Except.bind, QN.out, HZe.out], grown_trans HG.out HG7.out⟩
  case true =>
   have qn3 : l.length = c.f.results.length := by simpa using qn
   have qn2 : ((l.length : Int) == c.f.results.length) = true := by simp; omega
   have QN : Hid (l.length = c.f.results.length) := qn3
   clear qn3 qn
   go_enter Tryz.func193, Tryz.ntmps193
   go_wp2_with (first | (go_at_call 42; refine (HM.out _ _ _).mono ?_; rintro e w3 ⟨rfl, hw3⟩; rw [hw3]; clear hw3 w3; simp only [cond_true]) | (go_at_call 168; rw [HW.out.1]; refine (HE.out _ (World.grownBy.refl _ _)).mono ?_; rintro e w7 ⟨rfl, hg7⟩; have HG7 : Hid (W1.grownBy w7 none) := hg7; clear hg7))
   go_end0
   exact ⟨by rw [HR.out]; simp [ckE, Ck.sask, Ck.must, bind, Except.bind, QN.out, HZe.out], grown_trans HG.out HG7.out⟩
 ·skip
  have qn3 : ¬ l.length = c.f.results.length := by simpa using qn
  have qn2 : ((l.length : Int) == c.f.results.length) = false := by simp; omega
  have QN : Hid (¬ l.length = c.f.results.length) := qn3
  clear qn3 qn
  go_enter Tryz.func193, Tryz.ntmps193
  go_wp2_with (go_at_call 42; refine (HM.out _ _ _).mono ?_; rintro e w3 ⟨rfl, hw3⟩; rw [hw3]; clear hw3 w3; simp only [cond_false])
  exact ⟨rfl, by rw [HR.out]; simp [ckE, Ck.sask, Ck.must, bind, Except.bind, QN.out], by rw [HW.out.1]; exact HG.out⟩
theorem ckSet_ok {N : Nat} {w : World} {SB : Nat} {c : Ck.En} {A : ScA} {lp : Nat} {nodes deep : Int} (h : Sc N w SB c A lp nodes deep) (op n : Int) (a1 : Option Addr) (m1 k1 : Nat) (a2 : Option Addr) (m2 k2 : Nat) (a3 : Option Addr) (m3 k3 : Nat) (a4 : Option Addr) (m4 k4 : Nat) {M : Nat} {aa : Option Addr} {ac : Nat} {l dst : List Int} (hk : l.length = 1) (hn : ∀ x, x ∈ l → 0 ≤ x ∧ x < (c.n : Int)) (hl : NumIn M w aa l.length ac (fun i => l.getD i 0)) (hnb : Ty.nmB c.f.locals.length n = true) : CkS 188 w SB (stV op n a1 m1 k1 a2 m2 k2 a3 m3 k3 a4 m4 k4) aa l.length ac (Ck.sask c lp 1 n dst l) := by
 obtain ⟨a0, rfl, h0⟩ := list1 hk hn
 obtain ⟨W1, B4, HW, HG, HF⟩ := ck_openS h op n a1 m1 k1 a2 m2 k2 a3 m3 k3 a4 m4 k4
 obtain ⟨ab, ao, rfl, HA, hac⟩ := nums_at (hl.grow HG.out) (by simp)
 have HA0 : Hid (∀ W, W1.grownBy W none → W.cell? ⟨ab, ao, none⟩ = some (.int .i64 (a0 : Int))) := fun W g => HA.out W g 0 (by simp)
 simp only [List.length_cons, List.length_nil, Nat.zero_add] at hac
 clear HA hl hn hk
 have HM : Hid (∀ (b : Bool) (e : Int) W, Calls Tryz.prog 42 #[.bool b, .int .i64 e] W fun r w' => r = (bif b then .returned (.tuple #[]) else ckF e) ∧ w' = W) := ckMust_any
 obtain ⟨R, hR⟩ : ∃ R, R = ckE (fun _ => Value.tuple #[]) (Ck.sask c lp 1 n dst [(a0 : Int)]) := ⟨_, rfl⟩
 unfold CkS
 rw [← hR]
 have HR : Hid (R = ckE (fun _ => Value.tuple #[]) (Ck.sask c lp 1 n dst [(a0 : Int)])) := hR
 clear hR h
 have hll := (HF.out.sc W1 (World.grownBy.refl _ _)).lo.le
 have hlm := (HF.out.sc W1 (World.grownBy.refl _ _)).lo.max
 unfold maxLen at hlm
 obtain ⟨j, rfl, hj⟩ := ent_nat (Ty.nmB_iff.1 hnb)
 have hj' : (j : Int) < c.f.locals.length := by omega
 obtain ⟨lb, lo, hla, HLo, _⟩ := nums_at (HF.out.sc W1 (World.grownBy.refl _ _)).lo (by omega)
 have HK4 : Hid (∀ W, W1.grownBy W none → W.cell? ⟨SB, 4, none⟩ = some (.slice (some ⟨lb, lo, none⟩) c.f.locals.length A.lc)) := fun W g => by rw [← hla]; exact HF.out.k4 W g
 have HLj : Hid (∀ W, W1.grownBy W none → W.cell? ⟨lb, lo + j, none⟩ = some (.int .i64 (c.f.locals.getD j 0))) := fun W g => HLo.out W g j hj
 have HN : Hid (∀ W, W1.grownBy W none → Calls Tryz.prog 160 #[.int .i64 (c.f.locals.length : Int), .int .i64 (j : Int)] W fun r w' => r = .returned (.bool true) ∧ W.grownBy w' none) := fun W g => (ckNum64_any _ _ W (by omega)).mono fun r w' ⟨hr, hw⟩ => ⟨by rw [hr, hnb], by rw [hw]; exact World.grownBy.refl _ _⟩
 obtain ⟨L, hL⟩ : ∃ L, L = c.f.locals.getD j 0 := ⟨_, rfl⟩
 rw [← hL] at HLj
 have HL : Hid (c.f.locals.getD j 0 = L) := hL.symm
 clear hL
 rcases Bool.eq_false_or_eq_true (L == (a0 : Int)) with q0 | q0
 ·skip
  have HQ : Hid ((c.f.locals.getD j 0 == (a0 : Int)) = true) := by show _ = _; rw [HL.out]; exact q0
  go_enter Tryz.func188, Tryz.ntmps188
  go_wp2_with fail
  rw [HW.out.1, HW.out.2]
  refine region_lg 9 (World.grownBy.refl _ _) (by kernel_rfl) (by kernel_rfl) (by kernel_rfl) (by kernel_rfl) ?_
  simp only [List.take_succ_cons, List.take_zero]
  repeat (first
   | (refine lx_end fun W0 GR => ?_)
   | (refine lx_no ?_ ?_ ?_; (· simp [Region.wanted]; done); (· kernel_rfl); simp only [Act.put, List.setIfInBounds_toArray, List.set_cons_succ, List.set_cons_zero])
   | (refine lx_val (v := ?_) ?_ ?_ ?_ ?_; rotate_left; (· kernel_rfl); (· exact ⟨by kernel_rfl, rfl⟩); (· intro W g; simp [go_sem, HK4.out W g, HF.out.x1 W g]; rfl); simp only [Act.put, List.setIfInBounds_toArray, List.set_cons_succ, List.set_cons_zero])
   | (refine lx_callg HN.out ?_ ?_ ?_ ?_; (· kernel_rfl); (· exact ⟨by kernel_rfl, rfl⟩); (· intro W g; simp [go_sem]; done); simp only [Act.put, List.setIfInBounds_toArray, List.set_cons_succ, List.set_cons_zero]))
  simp only [List.drop_succ_cons, List.drop_zero]
  go_wp2_with (go_at_call 42; refine (HM.out _ _ _).mono ?_; rintro e w3 ⟨rfl, hw3⟩; rw [hw3]; clear hw3 w3; simp only [cond_true])
  refine region_lg 13 GR (by kernel_rfl) (by kernel_rfl) (by kernel_rfl) (by kernel_rfl) ?_
  simp only [List.take_succ_cons, List.take_zero]
  repeat (first
   | (refine lx_end fun V0 GV => ?_)
   | (refine lx_no ?_ ?_ ?_; (· simp [Region.wanted]; done); (· kernel_rfl); simp only [Act.put, List.setIfInBounds_toArray, List.set_cons_succ, List.set_cons_zero])
   | (refine lx_val (v := ?_) ?_ ?_ ?_ ?_; rotate_left; (· kernel_rfl); (· exact ⟨by kernel_rfl, rfl⟩); (· intro W g; simp [go_sem, HK4.out W g, HF.out.x1 W g, HA0.out W g, HLj.out W g, hj', q0]; rfl); simp only [Act.put, List.setIfInBounds_toArray, List.set_cons_succ, List.set_cons_zero]))
  simp only [List.drop_succ_cons, List.drop_zero]
  go_wp2_with (go_at_call 42; refine (HM.out _ _ _).mono ?_; rintro e w3 ⟨rfl, hw3⟩; rw [hw3]; clear hw3 w3; simp only [cond_true])
  go_end0
  exact ⟨by rw [HR.out, show Ck.sask c lp 1 (j : Int) dst [(a0 : Int)] = (do Ck.must (Ty.nmB c.f.locals.length (j : Int)) 92; Ck.must (c.f.locals.getD j 0 == (a0 : Int)) 93) from rfl, hnb, HQ.out]; rfl, grown_trans HG.out GV⟩
 ·skip
  have HQ : Hid ((c.f.locals.getD j 0 == (a0 : Int)) = false) := by show _ = _; rw [HL.out]; exact q0
  go_enter Tryz.func188, Tryz.ntmps188
  go_wp2_with fail
  rw [HW.out.1, HW.out.2]
  refine region_lg 9 (World.grownBy.refl _ _) (by kernel_rfl) (by kernel_rfl) (by kernel_rfl) (by kernel_rfl) ?_
  simp only [List.take_succ_cons, List.take_zero]
  repeat (first
   | (refine lx_end fun W0 GR => ?_)
   | (refine lx_no ?_ ?_ ?_; (· simp [Region.wanted]; done); (· kernel_rfl); simp only [Act.put, List.setIfInBounds_toArray, List.set_cons_succ, List.set_cons_zero])
   | (refine lx_val (v := ?_) ?_ ?_ ?_ ?_; rotate_left; (· kernel_rfl); (· exact ⟨by kernel_rfl, rfl⟩); (· intro W g; simp [go_sem, HK4.out W g, HF.out.x1 W g]; rfl); simp only [Act.put, List.setIfInBounds_toArray, List.set_cons_succ, List.set_cons_zero])
   | (refine lx_callg HN.out ?_ ?_ ?_ ?_; (· kernel_rfl); (· exact ⟨by kernel_rfl, rfl⟩); (· intro W g; simp [go_sem]; done); simp only [Act.put, List.setIfInBounds_toArray, List.set_cons_succ, List.set_cons_zero]))
  simp only [List.drop_succ_cons, List.drop_zero]
  go_wp2_with (go_at_call 42; refine (HM.out _ _ _).mono ?_; rintro e w3 ⟨rfl, hw3⟩; rw [hw3]; clear hw3 w3; simp only [cond_true])
  refine region_lg 13 GR (by kernel_rfl) (by kernel_rfl) (by kernel_rfl) (by kernel_rfl) ?_
  simp only [List.take_succ_cons, List.take_zero]
  repeat (first
   | (refine lx_end fun V0 GV => ?_)
   | (refine lx_no ?_ ?_ ?_; (· simp [Region.wanted]; done); (· kernel_rfl); simp only [Act.put, List.setIfInBounds_toArray, List.set_cons_succ, List.set_cons_zero])
   | (refine lx_val (v := ?_) ?_ ?_ ?_ ?_; rotate_left; (· kernel_rfl); (· exact ⟨by kernel_rfl, rfl⟩); (· intro W g; simp [go_sem, HK4.out W g, HF.out.x1 W g, HA0.out W g, HLj.out W g, hj', q0]; rfl); simp only [Act.put, List.setIfInBounds_toArray, List.set_cons_succ, List.set_cons_zero]))
  simp only [List.drop_succ_cons, List.drop_zero]
  go_wp2_with (go_at_call 42; refine (HM.out _ _ _).mono ?_; rintro e w3 ⟨rfl, hw3⟩; rw [hw3]; clear hw3 w3; simp only [cond_false])
  exact ⟨rfl, by rw [HR.out, show Ck.sask c lp 1 (j : Int) dst [(a0 : Int)] = (do Ck.must (Ty.nmB c.f.locals.length (j : Int)) 92; Ck.must (c.f.locals.getD j 0 == (a0 : Int)) 93) from rfl, hnb, HQ.out]; rfl, grown_trans HG.out GV⟩
theorem ckSet_no {N : Nat} {w : World} {SB : Nat} {c : Ck.En} {A : ScA} {lp : Nat} {nodes deep : Int} (h : Sc N w SB c A lp nodes deep) (op n : Int) (a1 : Option Addr) (m1 k1 : Nat) (a2 : Option Addr) (m2 k2 : Nat) (a3 : Option Addr) (m3 k3 : Nat) (a4 : Option Addr) (m4 k4 : Nat) {M : Nat} {aa : Option Addr} {ac : Nat} {l dst : List Int} (hk : l.length = 1) (hn : ∀ x, x ∈ l → 0 ≤ x ∧ x < (c.n : Int)) (hl : NumIn M w aa l.length ac (fun i => l.getD i 0)) (hnb : Ty.nmB c.f.locals.length n = false) : CkS 188 w SB (stV op n a1 m1 k1 a2 m2 k2 a3 m3 k3 a4 m4 k4) aa l.length ac (Ck.sask c lp 1 n dst l) := by
 obtain ⟨a0, rfl, h0⟩ := list1 hk hn
 obtain ⟨W1, B4, HW, HG, HF⟩ := ck_openS h op n a1 m1 k1 a2 m2 k2 a3 m3 k3 a4 m4 k4
 obtain ⟨ab, ao, rfl, HA, hac⟩ := nums_at (hl.grow HG.out) (by simp)
 have HA0 : Hid (∀ W, W1.grownBy W none → W.cell? ⟨ab, ao, none⟩ = some (.int .i64 (a0 : Int))) := fun W g => HA.out W g 0 (by simp)
 simp only [List.length_cons, List.length_nil, Nat.zero_add] at hac
 clear HA hl hn hk
 have HM : Hid (∀ (b : Bool) (e : Int) W, Calls Tryz.prog 42 #[.bool b, .int .i64 e] W fun r w' => r = (bif b then .returned (.tuple #[]) else ckF e) ∧ w' = W) := ckMust_any
 obtain ⟨R, hR⟩ : ∃ R, R = ckE (fun _ => Value.tuple #[]) (Ck.sask c lp 1 n dst [(a0 : Int)]) := ⟨_, rfl⟩
 unfold CkS
 rw [← hR]
 have HR : Hid (R = ckE (fun _ => Value.tuple #[]) (Ck.sask c lp 1 n dst [(a0 : Int)])) := hR
 clear hR h
 have hll := (HF.out.sc W1 (World.grownBy.refl _ _)).lo.le
 have hlm := (HF.out.sc W1 (World.grownBy.refl _ _)).lo.max
 unfold maxLen at hlm
 have HK4 : Hid (∀ W, W1.grownBy W none → W.cell? ⟨SB, 4, none⟩ = some (.slice A.la c.f.locals.length A.lc)) := HF.out.k4
 have HN : Hid (∀ W, W1.grownBy W none → Calls Tryz.prog 160 #[.int .i64 (c.f.locals.length : Int), .int .i64 n] W fun r w' => r = .returned (.bool false) ∧ W.grownBy w' none) := fun W g => (ckNum64_any _ _ W (by omega)).mono fun r w' ⟨hr, hw⟩ => ⟨by rw [hr, hnb], by rw [hw]; exact World.grownBy.refl _ _⟩
 go_enter Tryz.func188, Tryz.ntmps188
 go_wp2_with fail
 rw [HW.out.1, HW.out.2]
 refine region_lg 9 (World.grownBy.refl _ _) (by kernel_rfl) (by kernel_rfl) (by kernel_rfl) (by kernel_rfl) ?_
 simp only [List.take_succ_cons, List.take_zero]
 repeat (first
  | (refine lx_end fun W0 GR => ?_)
  | (refine lx_no ?_ ?_ ?_; (· simp [Region.wanted]; done); (· kernel_rfl); simp only [Act.put, List.setIfInBounds_toArray, List.set_cons_succ, List.set_cons_zero])
  | (refine lx_val (v := ?_) ?_ ?_ ?_ ?_; rotate_left; (· kernel_rfl); (· exact ⟨by kernel_rfl, rfl⟩); (· intro W g; simp [go_sem, HK4.out W g, HF.out.x1 W g]; rfl); simp only [Act.put, List.setIfInBounds_toArray, List.set_cons_succ, List.set_cons_zero])
  | (refine lx_callg HN.out ?_ ?_ ?_ ?_; (· kernel_rfl); (· exact ⟨by kernel_rfl, rfl⟩); (· intro W g; simp [go_sem]; done); simp only [Act.put, List.setIfInBounds_toArray, List.set_cons_succ, List.set_cons_zero]))
 simp only [List.drop_succ_cons, List.drop_zero]
 go_wp2_with (go_at_call 42; refine (HM.out _ _ _).mono ?_; rintro e w3 ⟨rfl, hw3⟩; rw [hw3]; clear hw3 w3; simp only [cond_false])
 exact ⟨rfl, by rw [HR.out]; simp [ckE, Ck.sask, Ck.must, bind, Except.bind, hnb], grown_trans HG.out GR⟩
end Go.Proofs.YtpcgkggpmipiaaaGreat
