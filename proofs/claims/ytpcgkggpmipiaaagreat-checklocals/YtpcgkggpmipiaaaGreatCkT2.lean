/- What terms ask of their Args' types, a method each. -/
import Derived.Test.YtpcgkggpmipiaaaGreatG11
import Derived.Test.YtpcgkggpmipiaaaGreatG12
import Derived.Test.YtpcgkggpmipiaaaGreatG13
namespace Go.Proofs.YtpcgkggpmipiaaaGreat
open Go.RowKit
set_option linter.unusedVariables false
set_option maxRecDepth 100000
set_option maxHeartbeats 4000000
theorem ckConst {N : Nat} {w : World} {SB : Nat} {c : Ck.En} {A : ScA} {loops nodes deep : Int} (h : Sc N w SB c A loops nodes deep) (op t n : Int) (s : ByteArray) (ax : Option Addr) (kx cx : Nat) {M : Nat} {aa : Option Addr} {ac : Nat} {l : List Int} (hk : l.length = 0) (hn : ∀ x, x ∈ l → 0 ≤ x ∧ x < (c.n : Int)) (hl : NumIn M w aa l.length ac (fun i => l.getD i 0)) (ht : 0 ≤ t ∧ t < (c.n : Int)) : CkM 113 w SB op t n s ax kx cx aa l.length ac (Ck.ask c 1 t n l) := by
 obtain ⟨tn, rfl, htn⟩ := ent_nat ht
 clear ht
 obtain rfl : l = [] := List.length_eq_zero_iff.1 hk
 obtain ⟨W1, B4, HW, HG, HF⟩ := ck_open h op (tn : Int) n s ax kx cx
 clear hl hn
 have HM : Hid (∀ (b : Bool) (e : Int) W, Calls Tryz.prog 42 #[.bool b, .int .i64 e] W fun r w' => r = (bif b then .returned (.tuple #[]) else ckF e) ∧ w' = W) := ckMust_any
 obtain ⟨R, hR⟩ : ∃ R, R = ckE (Value.int .i64) (Ck.ask c 1 (tn : Int) n []) := ⟨_, rfl⟩
 unfold CkM
 rw [← hR]
 have HR : Hid (R = ckE (Value.int .i64) (Ck.ask c 1 (tn : Int) n [])) := hR
 clear hR h
 obtain ⟨z0, hz_z0⟩ : ∃ z : Bool, z = Ck.plainK c tn := ⟨_, rfl⟩
 have HZ0 : Hid (Ck.plainK c tn = z0) := hz_z0.symm
 have HP : Hid (∀ W, W1.grownBy W none → Calls Tryz.prog 94 #[.agg #[.slice A.ea c.n A.ec, .slice A.va c.n A.vc], .int .i64 (tn : Int)] W fun r w' => r = .returned (.bool z0) ∧ W.grownBy w' none) := fun W g => by rw [hz_z0]; exact ckPlain_any (HF.out.sc W g).tb htn
 clear hz_z0
 have HK : Hid (∀ W, W1.grownBy W none → Calls Tryz.prog 93 #[.agg #[.slice A.ea c.n A.ec, .slice A.va c.n A.vc], .int .i64 (tn : Int)] W fun r w' => r = .returned (.int .i64 (c.T tn).kind) ∧ W.grownBy w' none) := fun W g => ckKind_any (HF.out.sc W g).tb htn
 obtain ⟨z1, hz_z1⟩ : ∃ z : Bool, z = Wd.isB (c.T tn).kind (n % 18446744073709551616) := ⟨_, rfl⟩
 have HZ1 : Hid (Wd.isB (c.T tn).kind (n % 18446744073709551616) = z1) := hz_z1.symm
 have HI : Hid (∀ W, W1.grownBy W none → Calls Tryz.prog 159 #[.int .i64 (c.T tn).kind, .int .u64 (n % 18446744073709551616)] W fun r w' => r = .returned (.bool z1) ∧ W.grownBy w' none) := fun W g => by rw [hz_z1]; exact (is_any _ _ W (by omega) (by omega)).mono fun r w' ⟨hr, hw⟩ => ⟨hr, by rw [hw]; exact World.grownBy.refl _ _⟩
 clear hz_z1
 have HQ : Hid (Ck.kd c tn = (c.T tn).kind) := rfl
 have hcv : IntKind.u64.wrap n = (n % 18446744073709551616) := by rw [IntKind.wrap_u64]
 generalize (c.T tn).kind = v0 at *
 cases z0
 case false =>
  go_enter Tryz.func113, Tryz.ntmps113
  go_wp2_with fail
  rw [HW.out.1, HW.out.2]
  refine region_lg 7 (World.grownBy.refl _ _) (by kernel_rfl) (by kernel_rfl) (by kernel_rfl) (by kernel_rfl) ?_
  simp only [List.take_succ_cons, List.take_zero]
  repeat (first
   | (refine lx_end fun W0 GR => ?_)
   | (refine lx_no ?_ ?_ ?_; (· simp [Region.wanted]; done); (· kernel_rfl); simp only [Act.put, List.setIfInBounds_toArray, List.set_cons_succ, List.set_cons_zero])
   | (refine lx_val (v := ?_) ?_ ?_ ?_ ?_; rotate_left; (· kernel_rfl); (· exact ⟨by kernel_rfl, rfl⟩); (· intro W g; simp [go_sem, HF.out.k0 W g, HF.out.k1 W g, HF.out.x1 W g]; rfl); simp only [Act.put, List.setIfInBounds_toArray, List.set_cons_succ, List.set_cons_zero])
   | (refine lx_callg HP.out ?_ ?_ ?_ ?_; (· kernel_rfl); (· exact ⟨by kernel_rfl, rfl⟩); (· intro W g; simp [go_sem]; done); simp only [Act.put, List.setIfInBounds_toArray, List.set_cons_succ, List.set_cons_zero]))
  simp only [List.drop_succ_cons, List.drop_zero]
  go_wp2_with (go_at_call 42; refine (HM.out _ _ _).mono ?_; rintro e w3 ⟨rfl, rfl⟩; simp only [cond_false])
  exact ⟨rfl, by rw [HR.out]; simp [ckE, Ck.ask, Ck.must, bind, Except.bind, HZ0.out], grown_trans HG.out GR⟩
 case true =>
  cases z1
  case false =>
   go_enter Tryz.func113, Tryz.ntmps113
   go_wp2_with fail
   rw [HW.out.1, HW.out.2]
   refine region_lg 7 (World.grownBy.refl _ _) (by kernel_rfl) (by kernel_rfl) (by kernel_rfl) (by kernel_rfl) ?_
   simp only [List.take_succ_cons, List.take_zero]
   repeat (first
    | (refine lx_end fun W0 GR => ?_)
    | (refine lx_no ?_ ?_ ?_; (· simp [Region.wanted]; done); (· kernel_rfl); simp only [Act.put, List.setIfInBounds_toArray, List.set_cons_succ, List.set_cons_zero])
    | (refine lx_val (v := ?_) ?_ ?_ ?_ ?_; rotate_left; (· kernel_rfl); (· exact ⟨by kernel_rfl, rfl⟩); (· intro W g; simp [go_sem, HF.out.k0 W g, HF.out.k1 W g, HF.out.x1 W g]; rfl); simp only [Act.put, List.setIfInBounds_toArray, List.set_cons_succ, List.set_cons_zero])
    | (refine lx_callg HP.out ?_ ?_ ?_ ?_; (· kernel_rfl); (· exact ⟨by kernel_rfl, rfl⟩); (· intro W g; simp [go_sem]; done); simp only [Act.put, List.setIfInBounds_toArray, List.set_cons_succ, List.set_cons_zero]))
   simp only [List.drop_succ_cons, List.drop_zero]
   go_wp2_with (go_at_call 42; refine (HM.out _ _ _).mono ?_; rintro e w3 ⟨rfl, rfl⟩; simp only [cond_true])
   refine region_lg 11 GR (by kernel_rfl) (by kernel_rfl) (by kernel_rfl) (by kernel_rfl) ?_
   simp only [List.take_succ_cons, List.take_zero]
   repeat (first
    | (refine lx_end fun V0 GV => ?_)
    | (refine lx_no ?_ ?_ ?_; (· simp [Region.wanted]; done); (· kernel_rfl); simp only [Act.put, List.setIfInBounds_toArray, List.set_cons_succ, List.set_cons_zero])
    | (refine lx_val (v := ?_) ?_ ?_ ?_ ?_; rotate_left; (· kernel_rfl); (· exact ⟨by kernel_rfl, rfl⟩); (· intro W g; simp [go_sem, HF.out.k0 W g, HF.out.k1 W g, HF.out.x1 W g, HF.out.x2 W g, hcv]; rfl); simp only [Act.put, List.setIfInBounds_toArray, List.set_cons_succ, List.set_cons_zero])
    | (refine lx_callg HK.out ?_ ?_ ?_ ?_; (· kernel_rfl); (· exact ⟨by kernel_rfl, rfl⟩); (· intro W g; simp [go_sem]; done); simp only [Act.put, List.setIfInBounds_toArray, List.set_cons_succ, List.set_cons_zero])
    | (refine lx_callg HI.out ?_ ?_ ?_ ?_; (· kernel_rfl); (· exact ⟨by kernel_rfl, rfl⟩); (· intro W g; simp [go_sem]; done); simp only [Act.put, List.setIfInBounds_toArray, List.set_cons_succ, List.set_cons_zero]))
   simp only [List.drop_succ_cons, List.drop_zero]
   have r0 := HF.out.x1 V0 GV
   go_wp2_with (go_at_call 42; refine (HM.out _ _ _).mono ?_; rintro e w3 ⟨rfl, rfl⟩; simp only [cond_false])
   exact ⟨rfl, by rw [HR.out]; simp [ckE, Ck.ask, Ck.must, bind, Except.bind, HQ.out, HZ0.out, HZ1.out], grown_trans HG.out GV⟩
  case true =>
   go_enter Tryz.func113, Tryz.ntmps113
   go_wp2_with fail
   rw [HW.out.1, HW.out.2]
   refine region_lg 7 (World.grownBy.refl _ _) (by kernel_rfl) (by kernel_rfl) (by kernel_rfl) (by kernel_rfl) ?_
   simp only [List.take_succ_cons, List.take_zero]
   repeat (first
    | (refine lx_end fun W0 GR => ?_)
    | (refine lx_no ?_ ?_ ?_; (· simp [Region.wanted]; done); (· kernel_rfl); simp only [Act.put, List.setIfInBounds_toArray, List.set_cons_succ, List.set_cons_zero])
    | (refine lx_val (v := ?_) ?_ ?_ ?_ ?_; rotate_left; (· kernel_rfl); (· exact ⟨by kernel_rfl, rfl⟩); (· intro W g; simp [go_sem, HF.out.k0 W g, HF.out.k1 W g, HF.out.x1 W g]; rfl); simp only [Act.put, List.setIfInBounds_toArray, List.set_cons_succ, List.set_cons_zero])
    | (refine lx_callg HP.out ?_ ?_ ?_ ?_; (· kernel_rfl); (· exact ⟨by kernel_rfl, rfl⟩); (· intro W g; simp [go_sem]; done); simp only [Act.put, List.setIfInBounds_toArray, List.set_cons_succ, List.set_cons_zero]))
   simp only [List.drop_succ_cons, List.drop_zero]
   go_wp2_with (go_at_call 42; refine (HM.out _ _ _).mono ?_; rintro e w3 ⟨rfl, rfl⟩; simp only [cond_true])
   refine region_lg 11 GR (by kernel_rfl) (by kernel_rfl) (by kernel_rfl) (by kernel_rfl) ?_
   simp only [List.take_succ_cons, List.take_zero]
   repeat (first
    | (refine lx_end fun V0 GV => ?_)
    | (refine lx_no ?_ ?_ ?_; (· simp [Region.wanted]; done); (· kernel_rfl); simp only [Act.put, List.setIfInBounds_toArray, List.set_cons_succ, List.set_cons_zero])
    | (refine lx_val (v := ?_) ?_ ?_ ?_ ?_; rotate_left; (· kernel_rfl); (· exact ⟨by kernel_rfl, rfl⟩); (· intro W g; simp [go_sem, HF.out.k0 W g, HF.out.k1 W g, HF.out.x1 W g, HF.out.x2 W g, hcv]; rfl); simp only [Act.put, List.setIfInBounds_toArray, List.set_cons_succ, List.set_cons_zero])
    | (refine lx_callg HK.out ?_ ?_ ?_ ?_; (· kernel_rfl); (· exact ⟨by kernel_rfl, rfl⟩); (· intro W g; simp [go_sem]; done); simp only [Act.put, List.setIfInBounds_toArray, List.set_cons_succ, List.set_cons_zero])
    | (refine lx_callg HI.out ?_ ?_ ?_ ?_; (· kernel_rfl); (· exact ⟨by kernel_rfl, rfl⟩); (· intro W g; simp [go_sem]; done); simp only [Act.put, List.setIfInBounds_toArray, List.set_cons_succ, List.set_cons_zero]))
   simp only [List.drop_succ_cons, List.drop_zero]
   have r0 := HF.out.x1 V0 GV
   go_wp2_with (go_at_call 42; refine (HM.out _ _ _).mono ?_; rintro e w3 ⟨rfl, rfl⟩; simp only [cond_true])
   go_ret
   exact ⟨by rw [HR.out]; simp [ckE, Ck.ask, Ck.must, bind, Except.bind, HQ.out, HZ0.out, HZ1.out], grown_trans HG.out GV⟩
theorem ckUnary {N : Nat} {w : World} {SB : Nat} {c : Ck.En} {A : ScA} {loops nodes deep : Int} (h : Sc N w SB c A loops nodes deep) (op t n : Int) (s : ByteArray) (ax : Option Addr) (kx cx : Nat) {M : Nat} {aa : Option Addr} {ac : Nat} {l : List Int} (hk : l.length = 1) (hn : ∀ x, x ∈ l → 0 ≤ x ∧ x < (c.n : Int)) (hl : NumIn M w aa l.length ac (fun i => l.getD i 0)) : CkM 161 w SB op t n s ax kx cx aa l.length ac (Ck.ask c 5 t n l) := by
 obtain ⟨a0, rfl, h0⟩ := list1 hk hn
 obtain ⟨W1, B4, HW, HG, HF⟩ := ck_open h op t n s ax kx cx
 obtain ⟨ab, ao, rfl, HA, hac⟩ := nums_at (hl.grow HG.out) (by simp)
 have HA0 : Hid (∀ W, W1.grownBy W none → W.cell? ⟨ab, ao, none⟩ = some (.int .i64 (a0 : Int))) := fun W g => HA.out W g 0 (by simp)
 simp only [List.length_cons, List.length_nil, Nat.zero_add] at hac
 clear HA hl hn hk
 have HM : Hid (∀ (b : Bool) (e : Int) W, Calls Tryz.prog 42 #[.bool b, .int .i64 e] W fun r w' => r = (bif b then .returned (.tuple #[]) else ckF e) ∧ w' = W) := ckMust_any
 obtain ⟨R, hR⟩ : ∃ R, R = ckE (Value.int .i64) (Ck.ask c 5 t n [(a0 : Int)]) := ⟨_, rfl⟩
 unfold CkM
 rw [← hR]
 have HR : Hid (R = ckE (Value.int .i64) (Ck.ask c 5 t n [(a0 : Int)])) := hR
 clear hR h
 have HK : Hid (∀ W, W1.grownBy W none → Calls Tryz.prog 93 #[.agg #[.slice A.ea c.n A.ec, .slice A.va c.n A.vc], .int .i64 (a0 : Int)] W fun r w' => r = .returned (.int .i64 (c.T a0).kind) ∧ W.grownBy w' none) := fun W g => ckKind_any (HF.out.sc W g).tb h0
 obtain ⟨z, hz_z⟩ : ∃ z : Bool, z = Wd.hasUnB n (c.T a0).kind := ⟨_, rfl⟩
 have HZ : Hid (Wd.hasUnB n (c.T a0).kind = z) := hz_z.symm
 rw [← Wd.unI_10] at hz_z
 have HU : Hid (∀ W, W1.grownBy W none → Calls Tryz.prog 203 #[.int .i64 n, .int .i64 (c.T a0).kind, .int .u64 0] W fun r w' => r = .returned (.tuple #[.int .u64 (Wd.unI n (c.T a0).kind 0).1, .int .i64 (Wd.unI n (c.T a0).kind 0).2]) ∧ W.grownBy w' none) := fun W g => (un_any _ _ 0 W (by omega) (by omega)).mono fun r w' ⟨hr, hw⟩ => ⟨hr, by rw [hw]; exact World.grownBy.refl _ _⟩
 generalize Wd.unI n (c.T a0).kind 0 = uu at *
 obtain ⟨u1, u2⟩ := uu
 try simp only at HU
 try simp only at hz_z
 have HQ : Hid (Ck.kd c a0 = (c.T a0).kind) := rfl
 generalize (c.T a0).kind = v0 at *
 cases z
 case false =>
  have hz2 : (u2 != 10) = false := hz_z.symm
  clear hz_z
  go_enter Tryz.func161, Tryz.ntmps161
  go_wp2_with fail
  rw [HW.out.1, HW.out.2]
  refine region_lga 16 (World.grownBy.refl _ _) (by kernel_rfl) (by kernel_rfl) (by kernel_rfl) (by kernel_rfl) ?_
  repeat (first
   | (refine lx_end fun W0 GR => ?_)
   | (refine lx_no ?_ ?_ ?_; (· simp [Region.wanted]; done); (· kernel_rfl); simp only [Act.put, List.setIfInBounds_toArray, List.set_cons_succ, List.set_cons_zero])
   | (refine lx_val (v := ?_) ?_ ?_ ?_ ?_; rotate_left; (· kernel_rfl); (· exact ⟨by kernel_rfl, rfl⟩); (· intro W g; simp [go_sem, HF.out.k0 W g, HF.out.k1 W g, HF.out.x2 W g, HA0.out W g]; rfl); simp only [Act.put, List.setIfInBounds_toArray, List.set_cons_succ, List.set_cons_zero])
   | (refine lx_callg HK.out ?_ ?_ ?_ ?_; (· kernel_rfl); (· exact ⟨by kernel_rfl, rfl⟩); (· intro W g; simp [go_sem]; done); simp only [Act.put, List.setIfInBounds_toArray, List.set_cons_succ, List.set_cons_zero])
   | (refine lx_callg HU.out ?_ ?_ ?_ ?_; (· kernel_rfl); (· exact ⟨by kernel_rfl, rfl⟩); (· intro W g; simp [go_sem]; done); simp only [Act.put, List.setIfInBounds_toArray, List.set_cons_succ, List.set_cons_zero]))
  have r0 := HA0.out W0 GR
  go_wp2_with (go_at_call 42; refine (HM.out _ _ _).mono ?_; rintro e w3 ⟨rfl, rfl⟩; simp only [cond_false])
  exact ⟨rfl, by rw [HR.out]; simp [ckE, Ck.ask, Ck.must, bind, Except.bind, HQ.out, HZ.out], grown_trans HG.out GR⟩
 case true =>
  have hz2 : (u2 != 10) = true := hz_z.symm
  clear hz_z
  go_enter Tryz.func161, Tryz.ntmps161
  go_wp2_with fail
  rw [HW.out.1, HW.out.2]
  refine region_lga 16 (World.grownBy.refl _ _) (by kernel_rfl) (by kernel_rfl) (by kernel_rfl) (by kernel_rfl) ?_
  repeat (first
   | (refine lx_end fun W0 GR => ?_)
   | (refine lx_no ?_ ?_ ?_; (· simp [Region.wanted]; done); (· kernel_rfl); simp only [Act.put, List.setIfInBounds_toArray, List.set_cons_succ, List.set_cons_zero])
   | (refine lx_val (v := ?_) ?_ ?_ ?_ ?_; rotate_left; (· kernel_rfl); (· exact ⟨by kernel_rfl, rfl⟩); (· intro W g; simp [go_sem, HF.out.k0 W g, HF.out.k1 W g, HF.out.x2 W g, HA0.out W g]; rfl); simp only [Act.put, List.setIfInBounds_toArray, List.set_cons_succ, List.set_cons_zero])
   | (refine lx_callg HK.out ?_ ?_ ?_ ?_; (· kernel_rfl); (· exact ⟨by kernel_rfl, rfl⟩); (· intro W g; simp [go_sem]; done); simp only [Act.put, List.setIfInBounds_toArray, List.set_cons_succ, List.set_cons_zero])
   | (refine lx_callg HU.out ?_ ?_ ?_ ?_; (· kernel_rfl); (· exact ⟨by kernel_rfl, rfl⟩); (· intro W g; simp [go_sem]; done); simp only [Act.put, List.setIfInBounds_toArray, List.set_cons_succ, List.set_cons_zero]))
  have r0 := HA0.out W0 GR
  go_wp2_with (go_at_call 42; refine (HM.out _ _ _).mono ?_; rintro e w3 ⟨rfl, rfl⟩; simp only [cond_true])
  go_ret
  exact ⟨by rw [HR.out]; simp [ckE, Ck.ask, Ck.must, bind, Except.bind, HQ.out, HZ.out], grown_trans HG.out GR⟩
theorem ckConvert {N : Nat} {w : World} {SB : Nat} {c : Ck.En} {A : ScA} {loops nodes deep : Int} (h : Sc N w SB c A loops nodes deep) (op t n : Int) (s : ByteArray) (ax : Option Addr) (kx cx : Nat) {M : Nat} {aa : Option Addr} {ac : Nat} {l : List Int} (hk : l.length = 1) (hn : ∀ x, x ∈ l → 0 ≤ x ∧ x < (c.n : Int)) (hl : NumIn M w aa l.length ac (fun i => l.getD i 0)) (ht : 0 ≤ t ∧ t < (c.n : Int)) : CkM 120 w SB op t n s ax kx cx aa l.length ac (Ck.ask c 9 t n l) := by
 obtain ⟨tn, rfl, htn⟩ := ent_nat ht
 clear ht
 obtain ⟨a0, rfl, h0⟩ := list1 hk hn
 obtain ⟨W1, B4, HW, HG, HF⟩ := ck_open h op (tn : Int) n s ax kx cx
 obtain ⟨ab, ao, rfl, HA, hac⟩ := nums_at (hl.grow HG.out) (by simp)
 have HA0 : Hid (∀ W, W1.grownBy W none → W.cell? ⟨ab, ao, none⟩ = some (.int .i64 (a0 : Int))) := fun W g => HA.out W g 0 (by simp)
 simp only [List.length_cons, List.length_nil, Nat.zero_add] at hac
 clear HA hl hn hk
 have HM : Hid (∀ (b : Bool) (e : Int) W, Calls Tryz.prog 42 #[.bool b, .int .i64 e] W fun r w' => r = (bif b then .returned (.tuple #[]) else ckF e) ∧ w' = W) := ckMust_any
 obtain ⟨R, hR⟩ : ∃ R, R = ckE (Value.int .i64) (Ck.ask c 9 (tn : Int) n [(a0 : Int)]) := ⟨_, rfl⟩
 unfold CkM
 rw [← hR]
 have HR : Hid (R = ckE (Value.int .i64) (Ck.ask c 9 (tn : Int) n [(a0 : Int)])) := hR
 clear hR h
 have HK : Hid (∀ W, W1.grownBy W none → Calls Tryz.prog 93 #[.agg #[.slice A.ea c.n A.ec, .slice A.va c.n A.vc], .int .i64 (a0 : Int)] W fun r w' => r = .returned (.int .i64 (c.T a0).kind) ∧ W.grownBy w' none) := fun W g => ckKind_any (HF.out.sc W g).tb h0
 have HK2 : Hid (∀ W, W1.grownBy W none → Calls Tryz.prog 93 #[.agg #[.slice A.ea c.n A.ec, .slice A.va c.n A.vc], .int .i64 (tn : Int)] W fun r w' => r = .returned (.int .i64 (c.T tn).kind) ∧ W.grownBy w' none) := fun W g => ckKind_any (HF.out.sc W g).tb htn
 obtain ⟨z, hz_z⟩ : ∃ z : Bool, z = (Wd.numB (c.T a0).kind && Wd.numB (c.T tn).kind) := ⟨_, rfl⟩
 have HY : Hid ((Wd.numB (c.T a0).kind && Wd.numB (c.T tn).kind) = z) := hz_z.symm
 have HZ : Hid ((Wd.numB (Ck.kd c a0) && Wd.numB (Ck.kd c tn)) = z) := HY.out
 clear HY
 rw [← Fl.convA_10] at hz_z
 have HU : Hid (∀ W, W1.grownBy W none → Calls Tryz.prog 166 #[.int .i64 (c.T a0).kind, .int .i64 (c.T tn).kind, .int .u64 0] W fun r w' => r = .returned (.tuple #[.int .u64 (Fl.convA (c.T a0).kind (c.T tn).kind 0).1, .int .i64 (Fl.convA (c.T a0).kind (c.T tn).kind 0).2]) ∧ W.grownBy w' none) := fun W g => (conv_any _ _ 0 W (by omega) (by omega)).mono fun r w' ⟨hr, hw⟩ => ⟨hr, by rw [hw]; exact World.grownBy.refl _ _⟩
 generalize Fl.convA (c.T a0).kind (c.T tn).kind 0 = uu at *
 obtain ⟨u1, u2⟩ := uu
 try simp only at HU
 try simp only at hz_z
 generalize (c.T a0).kind = v0 at *
 generalize (c.T tn).kind = v1 at *
 cases z
 case false =>
  have hz2 : (u2 != 10) = false := hz_z.symm
  clear hz_z
  go_enter Tryz.func120, Tryz.ntmps120
  go_wp2_with fail
  rw [HW.out.1, HW.out.2]
  refine region_lga 21 (World.grownBy.refl _ _) (by kernel_rfl) (by kernel_rfl) (by kernel_rfl) (by kernel_rfl) ?_
  repeat (first
   | (refine lx_end fun W0 GR => ?_)
   | (refine lx_no ?_ ?_ ?_; (· simp [Region.wanted]; done); (· kernel_rfl); simp only [Act.put, List.setIfInBounds_toArray, List.set_cons_succ, List.set_cons_zero])
   | (refine lx_val (v := ?_) ?_ ?_ ?_ ?_; rotate_left; (· kernel_rfl); (· exact ⟨by kernel_rfl, rfl⟩); (· intro W g; simp [go_sem, HF.out.k0 W g, HF.out.k1 W g, HF.out.x1 W g, HA0.out W g]; rfl); simp only [Act.put, List.setIfInBounds_toArray, List.set_cons_succ, List.set_cons_zero])
   | (refine lx_callg HK.out ?_ ?_ ?_ ?_; (· kernel_rfl); (· exact ⟨by kernel_rfl, rfl⟩); (· intro W g; simp [go_sem]; done); simp only [Act.put, List.setIfInBounds_toArray, List.set_cons_succ, List.set_cons_zero])
   | (refine lx_callg HK2.out ?_ ?_ ?_ ?_; (· kernel_rfl); (· exact ⟨by kernel_rfl, rfl⟩); (· intro W g; simp [go_sem]; done); simp only [Act.put, List.setIfInBounds_toArray, List.set_cons_succ, List.set_cons_zero])
   | (refine lx_callg HU.out ?_ ?_ ?_ ?_; (· kernel_rfl); (· exact ⟨by kernel_rfl, rfl⟩); (· intro W g; simp [go_sem]; done); simp only [Act.put, List.setIfInBounds_toArray, List.set_cons_succ, List.set_cons_zero]))
  have r0 := HF.out.x1 W0 GR
  go_wp2_with (go_at_call 42; refine (HM.out _ _ _).mono ?_; rintro e w3 ⟨rfl, rfl⟩; simp only [cond_false])
  exact ⟨rfl, by rw [HR.out, show Ck.ask c 9 (tn : Int) n [(a0 : Int)] = (do Ck.must (Wd.numB (Ck.kd c a0) && Wd.numB (Ck.kd c tn)) 93; .ok (tn : Int)) from rfl, HZ.out]; rfl, grown_trans HG.out GR⟩
 case true =>
  have hz2 : (u2 != 10) = true := hz_z.symm
  clear hz_z
  go_enter Tryz.func120, Tryz.ntmps120
  go_wp2_with fail
  rw [HW.out.1, HW.out.2]
  refine region_lga 21 (World.grownBy.refl _ _) (by kernel_rfl) (by kernel_rfl) (by kernel_rfl) (by kernel_rfl) ?_
  repeat (first
   | (refine lx_end fun W0 GR => ?_)
   | (refine lx_no ?_ ?_ ?_; (· simp [Region.wanted]; done); (· kernel_rfl); simp only [Act.put, List.setIfInBounds_toArray, List.set_cons_succ, List.set_cons_zero])
   | (refine lx_val (v := ?_) ?_ ?_ ?_ ?_; rotate_left; (· kernel_rfl); (· exact ⟨by kernel_rfl, rfl⟩); (· intro W g; simp [go_sem, HF.out.k0 W g, HF.out.k1 W g, HF.out.x1 W g, HA0.out W g]; rfl); simp only [Act.put, List.setIfInBounds_toArray, List.set_cons_succ, List.set_cons_zero])
   | (refine lx_callg HK.out ?_ ?_ ?_ ?_; (· kernel_rfl); (· exact ⟨by kernel_rfl, rfl⟩); (· intro W g; simp [go_sem]; done); simp only [Act.put, List.setIfInBounds_toArray, List.set_cons_succ, List.set_cons_zero])
   | (refine lx_callg HK2.out ?_ ?_ ?_ ?_; (· kernel_rfl); (· exact ⟨by kernel_rfl, rfl⟩); (· intro W g; simp [go_sem]; done); simp only [Act.put, List.setIfInBounds_toArray, List.set_cons_succ, List.set_cons_zero])
   | (refine lx_callg HU.out ?_ ?_ ?_ ?_; (· kernel_rfl); (· exact ⟨by kernel_rfl, rfl⟩); (· intro W g; simp [go_sem]; done); simp only [Act.put, List.setIfInBounds_toArray, List.set_cons_succ, List.set_cons_zero]))
  have r0 := HF.out.x1 W0 GR
  go_wp2_with (go_at_call 42; refine (HM.out _ _ _).mono ?_; rintro e w3 ⟨rfl, rfl⟩; simp only [cond_true])
  go_ret
  exact ⟨by rw [HR.out, show Ck.ask c 9 (tn : Int) n [(a0 : Int)] = (do Ck.must (Wd.numB (Ck.kd c a0) && Wd.numB (Ck.kd c tn)) 93; .ok (tn : Int)) from rfl, HZ.out]; rfl, grown_trans HG.out GR⟩
theorem ckBinary {N : Nat} {w : World} {SB : Nat} {c : Ck.En} {A : ScA} {loops nodes deep : Int} (h : Sc N w SB c A loops nodes deep) (op t n : Int) (s : ByteArray) (ax : Option Addr) (kx cx : Nat) {M : Nat} {aa : Option Addr} {ac : Nat} {l : List Int} (hk : l.length = 2) (hn : ∀ x, x ∈ l → 0 ≤ x ∧ x < (c.n : Int)) (hl : NumIn M w aa l.length ac (fun i => l.getD i 0)) (hop : n ≤ 8) : CkM 162 w SB op t n s ax kx cx aa l.length ac (Ck.ask c 6 t n l) := by
 obtain ⟨a0, a1, rfl, h0, h1⟩ := list2 hk hn
 obtain ⟨W1, B4, HW, HG, HF⟩ := ck_open h op t n s ax kx cx
 obtain ⟨ab, ao, rfl, HA, hac⟩ := nums_at (hl.grow HG.out) (by simp)
 have HA0 : Hid (∀ W, W1.grownBy W none → W.cell? ⟨ab, ao, none⟩ = some (.int .i64 (a0 : Int))) := fun W g => HA.out W g 0 (by simp)
 have HA1 : Hid (∀ W, W1.grownBy W none → W.cell? ⟨ab, ao + 1, none⟩ = some (.int .i64 (a1 : Int))) := fun W g => HA.out W g 1 (by simp)
 simp only [List.length_cons, List.length_nil, Nat.zero_add, Nat.reduceAdd] at hac
 clear HA hl hn hk
 have HM : Hid (∀ (b : Bool) (e : Int) W, Calls Tryz.prog 42 #[.bool b, .int .i64 e] W fun r w' => r = (bif b then .returned (.tuple #[]) else ckF e) ∧ w' = W) := ckMust_any
 obtain ⟨R, hR⟩ : ∃ R, R = ckE (Value.int .i64) (Ck.ask c 6 t n [(a0 : Int), (a1 : Int)]) := ⟨_, rfl⟩
 unfold CkM
 rw [← hR]
 have HR : Hid (R = ckE (Value.int .i64) (Ck.ask c 6 t n [(a0 : Int), (a1 : Int)])) := hR
 clear hR h
 have hop2 : ¬ (n = 9 ∨ n = 10) := by omega
 obtain ⟨z, hz_z⟩ : ∃ z : Bool, z = Wd.hasBinB n (c.T a0).kind := ⟨_, rfl⟩
 have HZ : Hid (Wd.hasBinB n (c.T a0).kind = z) := hz_z.symm
 have HH : Hid (∀ W, W1.grownBy W none → Calls Tryz.prog 204 #[.pointer (some ⟨SB, 0, none⟩), .int .i64 (a0 : Int), .int .i64 n] W fun r w' => r = .returned (.bool z) ∧ W.grownBy w' none) := fun W g => by rw [hz_z]; exact ckHasBin_any (HF.out.sc W g) h0 n
 clear hz_z
 have HQ : Hid (Ck.kd c a0 = (c.T a0).kind) := rfl
 rcases Bool.eq_false_or_eq_true ((a0 : Int) == a1) with q0 | q0
 ·skip
  cases z
  case false =>
   go_enter Tryz.func162, Tryz.ntmps162
   go_wp2_with fail
   rw [HW.out.1, HW.out.2]
   refine region_lg 7 (World.grownBy.refl _ _) (by kernel_rfl) (by kernel_rfl) (by kernel_rfl) (by kernel_rfl) ?_
   simp only [List.take_succ_cons, List.take_zero]
   repeat (first
    | (refine lx_end fun W0 GR => ?_)
    | (refine lx_no ?_ ?_ ?_; (· simp [Region.wanted]; done); (· kernel_rfl); simp only [Act.put, List.setIfInBounds_toArray, List.set_cons_succ, List.set_cons_zero])
    | (refine lx_val (v := ?_) ?_ ?_ ?_ ?_; rotate_left; (· kernel_rfl); (· exact ⟨by kernel_rfl, rfl⟩); (· intro W g; simp [go_sem, HA0.out W g, HA1.out W g, q0]; rfl); simp only [Act.put, List.setIfInBounds_toArray, List.set_cons_succ, List.set_cons_zero]))
   simp only [List.drop_succ_cons, List.drop_zero]
   go_wp2_with (go_at_call 42; refine (HM.out _ _ _).mono ?_; rintro e w3 ⟨rfl, rfl⟩; simp only [cond_true])
   refine region_lg 7 GR (by kernel_rfl) (by kernel_rfl) (by kernel_rfl) (by kernel_rfl) ?_
   simp only [List.take_succ_cons, List.take_zero]
   repeat (first
    | (refine lx_end fun V0 GV => ?_)
    | (refine lx_no ?_ ?_ ?_; (· simp [Region.wanted]; done); (· kernel_rfl); simp only [Act.put, List.setIfInBounds_toArray, List.set_cons_succ, List.set_cons_zero])
    | (refine lx_val (v := ?_) ?_ ?_ ?_ ?_; rotate_left; (· kernel_rfl); (· exact ⟨by kernel_rfl, rfl⟩); (· intro W g; simp [go_sem, HF.out.x2 W g, HA0.out W g]; rfl); simp only [Act.put, List.setIfInBounds_toArray, List.set_cons_succ, List.set_cons_zero])
    | (refine lx_callg HH.out ?_ ?_ ?_ ?_; (· kernel_rfl); (· exact ⟨by kernel_rfl, rfl⟩); (· intro W g; simp [go_sem]; done); simp only [Act.put, List.setIfInBounds_toArray, List.set_cons_succ, List.set_cons_zero]))
   simp only [List.drop_succ_cons, List.drop_zero]
   have r0 := HA0.out V0 GV
   go_wp2_with (go_at_call 42; refine (HM.out _ _ _).mono ?_; rintro e w3 ⟨rfl, rfl⟩; simp only [cond_false])
   exact ⟨rfl, by rw [HR.out]; simp [ckE, Ck.ask, Ck.must, bind, Except.bind, hop, hop2, q0, HQ.out, HZ.out], grown_trans HG.out GV⟩
  case true =>
   go_enter Tryz.func162, Tryz.ntmps162
   go_wp2_with fail
   rw [HW.out.1, HW.out.2]
   refine region_lg 7 (World.grownBy.refl _ _) (by kernel_rfl) (by kernel_rfl) (by kernel_rfl) (by kernel_rfl) ?_
   simp only [List.take_succ_cons, List.take_zero]
   repeat (first
    | (refine lx_end fun W0 GR => ?_)
    | (refine lx_no ?_ ?_ ?_; (· simp [Region.wanted]; done); (· kernel_rfl); simp only [Act.put, List.setIfInBounds_toArray, List.set_cons_succ, List.set_cons_zero])
    | (refine lx_val (v := ?_) ?_ ?_ ?_ ?_; rotate_left; (· kernel_rfl); (· exact ⟨by kernel_rfl, rfl⟩); (· intro W g; simp [go_sem, HA0.out W g, HA1.out W g, q0]; rfl); simp only [Act.put, List.setIfInBounds_toArray, List.set_cons_succ, List.set_cons_zero]))
   simp only [List.drop_succ_cons, List.drop_zero]
   go_wp2_with (go_at_call 42; refine (HM.out _ _ _).mono ?_; rintro e w3 ⟨rfl, rfl⟩; simp only [cond_true])
   refine region_lg 7 GR (by kernel_rfl) (by kernel_rfl) (by kernel_rfl) (by kernel_rfl) ?_
   simp only [List.take_succ_cons, List.take_zero]
   repeat (first
    | (refine lx_end fun V0 GV => ?_)
    | (refine lx_no ?_ ?_ ?_; (· simp [Region.wanted]; done); (· kernel_rfl); simp only [Act.put, List.setIfInBounds_toArray, List.set_cons_succ, List.set_cons_zero])
    | (refine lx_val (v := ?_) ?_ ?_ ?_ ?_; rotate_left; (· kernel_rfl); (· exact ⟨by kernel_rfl, rfl⟩); (· intro W g; simp [go_sem, HF.out.x2 W g, HA0.out W g]; rfl); simp only [Act.put, List.setIfInBounds_toArray, List.set_cons_succ, List.set_cons_zero])
    | (refine lx_callg HH.out ?_ ?_ ?_ ?_; (· kernel_rfl); (· exact ⟨by kernel_rfl, rfl⟩); (· intro W g; simp [go_sem]; done); simp only [Act.put, List.setIfInBounds_toArray, List.set_cons_succ, List.set_cons_zero]))
   simp only [List.drop_succ_cons, List.drop_zero]
   have r0 := HA0.out V0 GV
   go_wp2_with (go_at_call 42; refine (HM.out _ _ _).mono ?_; rintro e w3 ⟨rfl, rfl⟩; simp only [cond_true])
   go_ret
   exact ⟨by rw [HR.out]; simp [ckE, Ck.ask, Ck.must, bind, Except.bind, hop, hop2, q0, HQ.out, HZ.out], grown_trans HG.out GV⟩
 ·skip
  go_enter Tryz.func162, Tryz.ntmps162
  go_wp2_with fail
  rw [HW.out.1, HW.out.2]
  refine region_lg 7 (World.grownBy.refl _ _) (by kernel_rfl) (by kernel_rfl) (by kernel_rfl) (by kernel_rfl) ?_
  simp only [List.take_succ_cons, List.take_zero]
  repeat (first
   | (refine lx_end fun W0 GR => ?_)
   | (refine lx_no ?_ ?_ ?_; (· simp [Region.wanted]; done); (· kernel_rfl); simp only [Act.put, List.setIfInBounds_toArray, List.set_cons_succ, List.set_cons_zero])
   | (refine lx_val (v := ?_) ?_ ?_ ?_ ?_; rotate_left; (· kernel_rfl); (· exact ⟨by kernel_rfl, rfl⟩); (· intro W g; simp [go_sem, HA0.out W g, HA1.out W g, q0]; rfl); simp only [Act.put, List.setIfInBounds_toArray, List.set_cons_succ, List.set_cons_zero]))
  simp only [List.drop_succ_cons, List.drop_zero]
  go_wp2_with (go_at_call 42; refine (HM.out _ _ _).mono ?_; rintro e w3 ⟨rfl, rfl⟩; simp only [cond_false])
  exact ⟨rfl, by rw [HR.out]; simp [ckE, Ck.ask, Ck.must, bind, Except.bind, hop, hop2, q0], grown_trans HG.out GR⟩
theorem ckCompare {N : Nat} {w : World} {SB : Nat} {c : Ck.En} {A : ScA} {loops nodes deep : Int} (h : Sc N w SB c A loops nodes deep) (op t n : Int) (s : ByteArray) (ax : Option Addr) (kx cx : Nat) {M : Nat} {aa : Option Addr} {ac : Nat} {l : List Int} (hk : l.length = 2) (hn : ∀ x, x ∈ l → 0 ≤ x ∧ x < (c.n : Int)) (hl : NumIn M w aa l.length ac (fun i => l.getD i 0)) (ht : 0 ≤ t ∧ t < (c.n : Int)) (hop : 11 ≤ n) : CkM 164 w SB op t n s ax kx cx aa l.length ac (Ck.ask c 6 t n l) := by
 obtain ⟨tn, rfl, htn⟩ := ent_nat ht
 clear ht
 obtain ⟨a0, a1, rfl, h0, h1⟩ := list2 hk hn
 obtain ⟨W1, B4, HW, HG, HF⟩ := ck_open h op (tn : Int) n s ax kx cx
 obtain ⟨ab, ao, rfl, HA, hac⟩ := nums_at (hl.grow HG.out) (by simp)
 have HA0 : Hid (∀ W, W1.grownBy W none → W.cell? ⟨ab, ao, none⟩ = some (.int .i64 (a0 : Int))) := fun W g => HA.out W g 0 (by simp)
 have HA1 : Hid (∀ W, W1.grownBy W none → W.cell? ⟨ab, ao + 1, none⟩ = some (.int .i64 (a1 : Int))) := fun W g => HA.out W g 1 (by simp)
 simp only [List.length_cons, List.length_nil, Nat.zero_add, Nat.reduceAdd] at hac
 clear HA hl hn hk
 have HM : Hid (∀ (b : Bool) (e : Int) W, Calls Tryz.prog 42 #[.bool b, .int .i64 e] W fun r w' => r = (bif b then .returned (.tuple #[]) else ckF e) ∧ w' = W) := ckMust_any
 obtain ⟨R, hR⟩ : ∃ R, R = ckE (Value.int .i64) (Ck.ask c 6 (tn : Int) n [(a0 : Int), (a1 : Int)]) := ⟨_, rfl⟩
 unfold CkM
 rw [← hR]
 have HR : Hid (R = ckE (Value.int .i64) (Ck.ask c 6 (tn : Int) n [(a0 : Int), (a1 : Int)])) := hR
 clear hR h
 have hop2 : ¬ (n = 9 ∨ n = 10) := by omega
 have hop3 : (n ≤ 8) = False := by simp; omega
 obtain ⟨z, hz_z⟩ : ∃ z : Bool, z = Wd.hasBinB n (c.T a0).kind := ⟨_, rfl⟩
 have HZ : Hid (Wd.hasBinB n (c.T a0).kind = z) := hz_z.symm
 have HH : Hid (∀ W, W1.grownBy W none → Calls Tryz.prog 204 #[.pointer (some ⟨SB, 0, none⟩), .int .i64 (a0 : Int), .int .i64 n] W fun r w' => r = .returned (.bool z) ∧ W.grownBy w' none) := fun W g => by rw [hz_z]; exact ckHasBin_any (HF.out.sc W g) h0 n
 clear hz_z
 have HQ : Hid (Ck.kd c a0 = (c.T a0).kind) := rfl
 obtain ⟨zb, hz_zb⟩ : ∃ z : Bool, z = (Ck.kd c tn == 1) := ⟨_, rfl⟩
 have HB0 : Hid ((Ck.kd c tn == 1) = zb) := hz_zb.symm
 have HB : Hid (∀ W, W1.grownBy W none → Calls Tryz.prog 165 #[.agg #[.slice A.ea c.n A.ec, .slice A.va c.n A.vc], .int .i64 (tn : Int)] W fun r w' => r = .returned (.bool zb) ∧ W.grownBy w' none) := fun W g => by rw [hz_zb]; exact ckBool_any (HF.out.sc W g).tb htn
 clear hz_zb
 cases zb
 case false =>
  rcases Bool.eq_false_or_eq_true ((a0 : Int) == a1) with q0 | q0
  ·skip
   go_enter Tryz.func164, Tryz.ntmps164
   go_wp2_with fail
   rw [HW.out.1, HW.out.2]
   refine region_lg 16 (World.grownBy.refl _ _) (by kernel_rfl) (by kernel_rfl) (by kernel_rfl) (by kernel_rfl) ?_
   simp only [List.take_succ_cons, List.take_zero]
   repeat (first
    | (refine lx_end fun W0 GR => ?_)
    | (refine lx_no ?_ ?_ ?_; (· simp [Region.wanted, yielded]; done); (· kernel_rfl); simp only [Act.put, List.setIfInBounds_toArray, List.set_cons_succ, List.set_cons_zero])
    | (refine lx_val (v := ?_) ?_ ?_ ?_ ?_; rotate_left; (· kernel_rfl); (· exact ⟨by kernel_rfl, rfl⟩); (· intro W g; simp [go_sem, HF.out.k0 W g, HF.out.k1 W g, HF.out.x1 W g]; rfl); simp only [Act.put, List.setIfInBounds_toArray, List.set_cons_succ, List.set_cons_zero])
    | (refine lx_callg HB.out ?_ ?_ ?_ ?_; (· kernel_rfl); (· exact ⟨by kernel_rfl, rfl⟩); (· intro W g; simp [go_sem]; done); simp only [Act.put, List.setIfInBounds_toArray, List.set_cons_succ, List.set_cons_zero]))
   simp only [List.drop_succ_cons, List.drop_zero]
   go_wp2_with (go_at_call 42; refine (HM.out _ _ _).mono ?_; rintro e w3 ⟨rfl, rfl⟩; simp only [cond_false])
   exact ⟨rfl, by rw [HR.out]; simp [ckE, Ck.ask, Ck.must, bind, Except.bind, hop3, hop2, q0, HB0.out], grown_trans HG.out GR⟩
  ·skip
   go_enter Tryz.func164, Tryz.ntmps164
   go_wp2_with fail
   rw [HW.out.1, HW.out.2]
   refine region_lg 16 (World.grownBy.refl _ _) (by kernel_rfl) (by kernel_rfl) (by kernel_rfl) (by kernel_rfl) ?_
   simp only [List.take_succ_cons, List.take_zero]
   repeat (first
    | (refine lx_end fun W0 GR => ?_)
    | (refine lx_no ?_ ?_ ?_; (· simp [Region.wanted, yielded]; done); (· kernel_rfl); simp only [Act.put, List.setIfInBounds_toArray, List.set_cons_succ, List.set_cons_zero])
    | (refine lx_val (v := ?_) ?_ ?_ ?_ ?_; rotate_left; (· kernel_rfl); (· exact ⟨by kernel_rfl, rfl⟩); (· intro W g; simp [go_sem, HF.out.k0 W g, HF.out.k1 W g, HF.out.x1 W g]; rfl); simp only [Act.put, List.setIfInBounds_toArray, List.set_cons_succ, List.set_cons_zero])
    | (refine lx_callg HB.out ?_ ?_ ?_ ?_; (· kernel_rfl); (· exact ⟨by kernel_rfl, rfl⟩); (· intro W g; simp [go_sem]; done); simp only [Act.put, List.setIfInBounds_toArray, List.set_cons_succ, List.set_cons_zero]))
   simp only [List.drop_succ_cons, List.drop_zero]
   go_wp2_with (go_at_call 42; refine (HM.out _ _ _).mono ?_; rintro e w3 ⟨rfl, rfl⟩; simp only [cond_false])
   exact ⟨rfl, by rw [HR.out]; simp [ckE, Ck.ask, Ck.must, bind, Except.bind, hop3, hop2, q0, HB0.out], grown_trans HG.out GR⟩
 case true =>
  rcases Bool.eq_false_or_eq_true ((a0 : Int) == a1) with q0 | q0
  ·skip
   cases z
   case false =>
    go_enter Tryz.func164, Tryz.ntmps164
    go_wp2_with fail
    rw [HW.out.1, HW.out.2]
    refine region_lg 16 (World.grownBy.refl _ _) (by kernel_rfl) (by kernel_rfl) (by kernel_rfl) (by kernel_rfl) ?_
    simp only [List.take_succ_cons, List.take_zero]
    repeat (first
     | (refine lx_end fun W0 GR => ?_)
     | (refine lx_no ?_ ?_ ?_; (· simp [Region.wanted, yielded]; done); (· kernel_rfl); simp only [Act.put, List.setIfInBounds_toArray, List.set_cons_succ, List.set_cons_zero])
     | (refine lx_val (v := ?_) ?_ ?_ ?_ ?_; rotate_left; (· kernel_rfl); (· exact ⟨by kernel_rfl, rfl⟩); (· intro W g; simp [go_sem, HF.out.k0 W g, HF.out.k1 W g, HF.out.x1 W g, HA0.out W g, HA1.out W g, q0]; rfl); simp only [Act.put, List.setIfInBounds_toArray, List.set_cons_succ, List.set_cons_zero])
     | (refine lx_callg HB.out ?_ ?_ ?_ ?_; (· kernel_rfl); (· exact ⟨by kernel_rfl, rfl⟩); (· intro W g; simp [go_sem]; done); simp only [Act.put, List.setIfInBounds_toArray, List.set_cons_succ, List.set_cons_zero]))
    simp only [List.drop_succ_cons, List.drop_zero]
    go_wp2_with (go_at_call 42; refine (HM.out _ _ _).mono ?_; rintro e w3 ⟨rfl, rfl⟩; simp only [cond_true])
    refine region_lg 7 GR (by kernel_rfl) (by kernel_rfl) (by kernel_rfl) (by kernel_rfl) ?_
    simp only [List.take_succ_cons, List.take_zero]
    repeat (first
     | (refine lx_end fun V0 GV => ?_)
     | (refine lx_no ?_ ?_ ?_; (· simp [Region.wanted]; done); (· kernel_rfl); simp only [Act.put, List.setIfInBounds_toArray, List.set_cons_succ, List.set_cons_zero])
     | (refine lx_val (v := ?_) ?_ ?_ ?_ ?_; rotate_left; (· kernel_rfl); (· exact ⟨by kernel_rfl, rfl⟩); (· intro W g; simp [go_sem, HF.out.x2 W g, HA0.out W g]; rfl); simp only [Act.put, List.setIfInBounds_toArray, List.set_cons_succ, List.set_cons_zero])
     | (refine lx_callg HH.out ?_ ?_ ?_ ?_; (· kernel_rfl); (· exact ⟨by kernel_rfl, rfl⟩); (· intro W g; simp [go_sem]; done); simp only [Act.put, List.setIfInBounds_toArray, List.set_cons_succ, List.set_cons_zero]))
    simp only [List.drop_succ_cons, List.drop_zero]
    have r0 := HF.out.x1 V0 GV
    go_wp2_with (go_at_call 42; refine (HM.out _ _ _).mono ?_; rintro e w3 ⟨rfl, rfl⟩; simp only [cond_false])
    exact ⟨rfl, by rw [HR.out]; simp [ckE, Ck.ask, Ck.must, bind, Except.bind, hop3, hop2, q0, HQ.out, HZ.out, HB0.out], grown_trans HG.out GV⟩
   case true =>
    go_enter Tryz.func164, Tryz.ntmps164
    go_wp2_with fail
    rw [HW.out.1, HW.out.2]
    refine region_lg 16 (World.grownBy.refl _ _) (by kernel_rfl) (by kernel_rfl) (by kernel_rfl) (by kernel_rfl) ?_
    simp only [List.take_succ_cons, List.take_zero]
    repeat (first
     | (refine lx_end fun W0 GR => ?_)
     | (refine lx_no ?_ ?_ ?_; (· simp [Region.wanted, yielded]; done); (· kernel_rfl); simp only [Act.put, List.setIfInBounds_toArray, List.set_cons_succ, List.set_cons_zero])
     | (refine lx_val (v := ?_) ?_ ?_ ?_ ?_; rotate_left; (· kernel_rfl); (· exact ⟨by kernel_rfl, rfl⟩); (· intro W g; simp [go_sem, HF.out.k0 W g, HF.out.k1 W g, HF.out.x1 W g, HA0.out W g, HA1.out W g, q0]; rfl); simp only [Act.put, List.setIfInBounds_toArray, List.set_cons_succ, List.set_cons_zero])
     | (refine lx_callg HB.out ?_ ?_ ?_ ?_; (· kernel_rfl); (· exact ⟨by kernel_rfl, rfl⟩); (· intro W g; simp [go_sem]; done); simp only [Act.put, List.setIfInBounds_toArray, List.set_cons_succ, List.set_cons_zero]))
    simp only [List.drop_succ_cons, List.drop_zero]
    go_wp2_with (go_at_call 42; refine (HM.out _ _ _).mono ?_; rintro e w3 ⟨rfl, rfl⟩; simp only [cond_true])
    refine region_lg 7 GR (by kernel_rfl) (by kernel_rfl) (by kernel_rfl) (by kernel_rfl) ?_
    simp only [List.take_succ_cons, List.take_zero]
    repeat (first
     | (refine lx_end fun V0 GV => ?_)
     | (refine lx_no ?_ ?_ ?_; (· simp [Region.wanted]; done); (· kernel_rfl); simp only [Act.put, List.setIfInBounds_toArray, List.set_cons_succ, List.set_cons_zero])
     | (refine lx_val (v := ?_) ?_ ?_ ?_ ?_; rotate_left; (· kernel_rfl); (· exact ⟨by kernel_rfl, rfl⟩); (· intro W g; simp [go_sem, HF.out.x2 W g, HA0.out W g]; rfl); simp only [Act.put, List.setIfInBounds_toArray, List.set_cons_succ, List.set_cons_zero])
     | (refine lx_callg HH.out ?_ ?_ ?_ ?_; (· kernel_rfl); (· exact ⟨by kernel_rfl, rfl⟩); (· intro W g; simp [go_sem]; done); simp only [Act.put, List.setIfInBounds_toArray, List.set_cons_succ, List.set_cons_zero]))
    simp only [List.drop_succ_cons, List.drop_zero]
    have r0 := HF.out.x1 V0 GV
    go_wp2_with (go_at_call 42; refine (HM.out _ _ _).mono ?_; rintro e w3 ⟨rfl, rfl⟩; simp only [cond_true])
    go_ret
    exact ⟨by rw [HR.out]; simp [ckE, Ck.ask, Ck.must, bind, Except.bind, hop3, hop2, q0, HQ.out, HZ.out, HB0.out], grown_trans HG.out GV⟩
  ·skip
   go_enter Tryz.func164, Tryz.ntmps164
   go_wp2_with fail
   rw [HW.out.1, HW.out.2]
   refine region_lg 16 (World.grownBy.refl _ _) (by kernel_rfl) (by kernel_rfl) (by kernel_rfl) (by kernel_rfl) ?_
   simp only [List.take_succ_cons, List.take_zero]
   repeat (first
    | (refine lx_end fun W0 GR => ?_)
    | (refine lx_no ?_ ?_ ?_; (· simp [Region.wanted, yielded]; done); (· kernel_rfl); simp only [Act.put, List.setIfInBounds_toArray, List.set_cons_succ, List.set_cons_zero])
    | (refine lx_val (v := ?_) ?_ ?_ ?_ ?_; rotate_left; (· kernel_rfl); (· exact ⟨by kernel_rfl, rfl⟩); (· intro W g; simp [go_sem, HF.out.k0 W g, HF.out.k1 W g, HF.out.x1 W g, HA0.out W g, HA1.out W g, q0]; rfl); simp only [Act.put, List.setIfInBounds_toArray, List.set_cons_succ, List.set_cons_zero])
    | (refine lx_callg HB.out ?_ ?_ ?_ ?_; (· kernel_rfl); (· exact ⟨by kernel_rfl, rfl⟩); (· intro W g; simp [go_sem]; done); simp only [Act.put, List.setIfInBounds_toArray, List.set_cons_succ, List.set_cons_zero]))
   simp only [List.drop_succ_cons, List.drop_zero]
   go_wp2_with (go_at_call 42; refine (HM.out _ _ _).mono ?_; rintro e w3 ⟨rfl, rfl⟩; simp only [cond_false])
   exact ⟨rfl, by rw [HR.out]; simp [ckE, Ck.ask, Ck.must, bind, Except.bind, hop3, hop2, q0, HB0.out], grown_trans HG.out GR⟩
end Go.Proofs.YtpcgkggpmipiaaaGreat
