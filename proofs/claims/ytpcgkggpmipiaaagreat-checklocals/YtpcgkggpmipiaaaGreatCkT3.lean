/- What terms ask of their Args' types, a method each. -/
import Derived.Test.YtpcgkggpmipiaaaGreatG11
import Derived.Test.YtpcgkggpmipiaaaGreatG12
import Derived.Test.YtpcgkggpmipiaaaGreatG14
import Derived.Test.YtpcgkggpmipiaaaGreatCkEl
namespace Go.Proofs.YtpcgkggpmipiaaaGreat
open Go.RowKit
set_option linter.unusedVariables false
set_option maxRecDepth 100000
set_option maxHeartbeats 4000000
theorem ckField {N : Nat} {w : World} {SB : Nat} {c : Ck.En} {A : ScA} {loops nodes deep : Int} (h : Sc N w SB c A loops nodes deep) (op t n : Int) (s : ByteArray) (ax : Option Addr) (kx cx : Nat) {M : Nat} {aa : Option Addr} {ac : Nat} {l : List Int} (hk : l.length = 1) (hn : ∀ x, x ∈ l → 0 ≤ x ∧ x < (c.n : Int)) (hl : NumIn M w aa l.length ac (fun i => l.getD i 0)) : CkM 121 w SB op t n s ax kx cx aa l.length ac (Ck.ask c 10 t n l) := by
 obtain ⟨a0, rfl, h0⟩ := list1 hk hn
 obtain ⟨W1, B4, HW, HG, HF⟩ := ck_open h op t n s ax kx cx
 obtain ⟨ab, ao, rfl, HA, hac⟩ := nums_at (hl.grow HG.out) (by simp)
 have HA0 : Hid (∀ W, W1.grownBy W none → W.cell? ⟨ab, ao, none⟩ = some (.int .i64 (a0 : Int))) := fun W g => HA.out W g 0 (by simp)
 simp only [List.length_cons, List.length_nil, Nat.zero_add] at hac
 clear HA hl hn hk
 have HM : Hid (∀ (b : Bool) (e : Int) W, Calls Tryz.prog 42 #[.bool b, .int .i64 e] W fun r w' => r = (bif b then .returned (.tuple #[]) else ckF e) ∧ w' = W) := ckMust_any
 obtain ⟨R, hR⟩ : ∃ R, R = ckE (Value.int .i64) (Ck.ask c 10 t n [(a0 : Int)]) := ⟨_, rfl⟩
 unfold CkM
 rw [← hR]
 have HR : Hid (R = ckE (Value.int .i64) (Ck.ask c 10 t n [(a0 : Int)])) := hR
 clear hR h
 obtain ⟨FR, hFR⟩ : ∃ r, r = Ck.fld c a0 n := ⟨_, rfl⟩
 have HL : Hid (∀ W, W1.grownBy W none → Calls Tryz.prog 167 #[.pointer (some ⟨SB, 0, none⟩), .int .i64 (a0 : Int), .int .i64 n] W fun e w' => e = ckE (Value.int .i64) FR ∧ W.grownBy w' none) := fun W g => by rw [hFR]; exact ckFieldOf_any (HF.out.sc W g) h0 n
 have HFR : Hid (Ck.fld c a0 n = FR) := hFR.symm
 clear hFR
 cases FR with
 | error er =>
  have HL2 : Hid (∀ W, W1.grownBy W none → Calls Tryz.prog 167 #[.pointer (some ⟨SB, 0, none⟩), .int .i64 (a0 : Int), .int .i64 n] W fun e w' => e = ckF er ∧ W.grownBy w' none) := HL.out
  go_enter Tryz.func121, Tryz.ntmps121
  go_wp2_with fail
  rw [HW.out.1, HW.out.2]
  refine region_lg 7 (World.grownBy.refl _ _) (by kernel_rfl) (by kernel_rfl) (by kernel_rfl) (by kernel_rfl) ?_
  simp only [List.take_succ_cons, List.take_zero]
  repeat (first
   | (refine lx_end fun W0 GR => ?_)
   | (refine lx_no ?_ ?_ ?_; (· simp [Region.wanted]; done); (· kernel_rfl); simp only [Act.put, List.setIfInBounds_toArray, List.set_cons_succ, List.set_cons_zero])
   | (refine lx_never ?_ ?_ ?_; (· decide +kernel); (· kernel_rfl); simp only [Act.put, List.setIfInBounds_toArray, List.set_cons_succ, List.set_cons_zero])
   | (refine lx_val (v := ?_) ?_ ?_ ?_ ?_; rotate_left; (· kernel_rfl); (· exact ⟨by kernel_rfl, rfl⟩); (· intro W g; simp [go_sem, HF.out.x2 W g, HA0.out W g]; rfl); simp only [Act.put, List.setIfInBounds_toArray, List.set_cons_succ, List.set_cons_zero])
   | (refine lx_stopg HL2.out ?_ ?_ ?_ ?_ ?_; (· kernel_rfl); (· exact ⟨by kernel_rfl, rfl⟩); (· intro W g; simp [go_sem]; done); (· intro W g ax9 hd; exact ⟨hd, by rw [HR.out]; simp [Ck.ask, HFR.out, ckE], grown_trans HG.out g⟩); simp only [Act.put, List.setIfInBounds_toArray, List.set_cons_succ, List.set_cons_zero])
   | exact lx_lost)
  all_goals simp only [List.drop_succ_cons, List.drop_zero]
 | ok v =>
  have HL2 : Hid (∀ W, W1.grownBy W none → Calls Tryz.prog 167 #[.pointer (some ⟨SB, 0, none⟩), .int .i64 (a0 : Int), .int .i64 n] W fun e w' => e = .returned (.int .i64 v) ∧ W.grownBy w' none) := HL.out
  go_enter Tryz.func121, Tryz.ntmps121
  go_wp2_with fail
  rw [HW.out.1, HW.out.2]
  refine region_lg 7 (World.grownBy.refl _ _) (by kernel_rfl) (by kernel_rfl) (by kernel_rfl) (by kernel_rfl) ?_
  simp only [List.take_succ_cons, List.take_zero]
  repeat (first
   | (refine lx_end fun W0 GR => ?_)
   | (refine lx_no ?_ ?_ ?_; (· simp [Region.wanted]; done); (· kernel_rfl); simp only [Act.put, List.setIfInBounds_toArray, List.set_cons_succ, List.set_cons_zero])
   | (refine lx_val (v := ?_) ?_ ?_ ?_ ?_; rotate_left; (· kernel_rfl); (· exact ⟨by kernel_rfl, rfl⟩); (· intro W g; simp [go_sem, HF.out.x2 W g, HA0.out W g]; rfl); simp only [Act.put, List.setIfInBounds_toArray, List.set_cons_succ, List.set_cons_zero])
   | (refine lx_callg HL2.out ?_ ?_ ?_ ?_; (· kernel_rfl); (· exact ⟨by kernel_rfl, rfl⟩); (· intro W g; simp [go_sem]; done); simp only [Act.put, List.setIfInBounds_toArray, List.set_cons_succ, List.set_cons_zero]))
  simp only [List.drop_succ_cons, List.drop_zero]
  go_wp2
  go_ret
  exact ⟨by rw [HR.out]; simp [Ck.ask, HFR.out, ckE], grown_trans HG.out GR⟩
theorem ckLocal_ok {N : Nat} {w : World} {SB : Nat} {c : Ck.En} {A : ScA} {loops nodes deep : Int} (h : Sc N w SB c A loops nodes deep) (op t n : Int) (s : ByteArray) (ax : Option Addr) (kx cx : Nat) {M : Nat} {aa : Option Addr} {ac : Nat} {l : List Int} (hk : l.length = 0) (hn : ∀ x, x ∈ l → 0 ≤ x ∧ x < (c.n : Int)) (hl : NumIn M w aa l.length ac (fun i => l.getD i 0)) (hnb : Ty.nmB c.f.locals.length n = true) : CkM 116 w SB op t n s ax kx cx aa l.length ac (Ck.ask c 4 t n l) := by
 obtain rfl : l = [] := List.length_eq_zero_iff.1 hk
 obtain ⟨W1, B4, HW, HG, HF⟩ := ck_open h op t n s ax kx cx
 clear hl hn
 have HM : Hid (∀ (b : Bool) (e : Int) W, Calls Tryz.prog 42 #[.bool b, .int .i64 e] W fun r w' => r = (bif b then .returned (.tuple #[]) else ckF e) ∧ w' = W) := ckMust_any
 obtain ⟨R, hR⟩ : ∃ R, R = ckE (Value.int .i64) (Ck.ask c 4 t n []) := ⟨_, rfl⟩
 unfold CkM
 rw [← hR]
 have HR : Hid (R = ckE (Value.int .i64) (Ck.ask c 4 t n [])) := hR
 clear hR h
 have hll := (HF.out.sc W1 (World.grownBy.refl _ _)).lo.le
 have hlm := (HF.out.sc W1 (World.grownBy.refl _ _)).lo.max
 unfold maxLen at hlm
 obtain ⟨j, rfl, hj⟩ := ent_nat (Ty.nmB_iff.1 hnb)
 have hj' : (j : Int) < c.f.locals.length := by omega
 obtain ⟨lb, lo, hla, HLo, _⟩ := nums_at (HF.out.sc W1 (World.grownBy.refl _ _)).lo (by omega)
 have HK4 : Hid (∀ W, W1.grownBy W none → W.cell? ⟨SB, 4, none⟩ = some (.slice (some ⟨lb, lo, none⟩) c.f.locals.length A.lc)) := fun W g => by rw [← hla]; exact HF.out.k4 W g
 have HLj : Hid (∀ W, W1.grownBy W none → W.cell? ⟨lb, lo + j, none⟩ = some (.int .i64 (c.f.locals.getD j 0))) := fun W g => HLo.out W g j hj
 have HN : Hid (∀ W, W1.grownBy W none → Calls Tryz.prog 160 #[.int .i64 (c.f.locals.length : Int), .int .i64 (j : Int)] W fun r w' => r = .returned (.bool true) ∧ W.grownBy w' none) := fun W g => (ckNum64_any _ _ W (by omega)).mono fun r w' ⟨hr, hw⟩ => ⟨by rw [hr, hnb], by rw [hw]; exact World.grownBy.refl _ _⟩
 go_enter Tryz.func116, Tryz.ntmps116
 go_wp2_with fail
 rw [HW.out.1, HW.out.2]
 refine region_lg 9 (World.grownBy.refl _ _) (by kernel_rfl) (by kernel_rfl) (by kernel_rfl) (by kernel_rfl) ?_
 simp only [List.take_succ_cons, List.take_zero]
 repeat (first
  | (refine lx_end fun W0 GR => ?_)
  | (refine lx_no ?_ ?_ ?_; (· simp [Region.wanted]; done); (· kernel_rfl); simp only [Act.put, List.setIfInBounds_toArray, List.set_cons_succ, List.set_cons_zero])
  | (refine lx_val (v := ?_) ?_ ?_ ?_ ?_; rotate_left; (· kernel_rfl); (· exact ⟨by kernel_rfl, rfl⟩); (· intro W g; simp [go_sem, HK4.out W g, HF.out.x2 W g]; rfl); simp only [Act.put, List.setIfInBounds_toArray, List.set_cons_succ, List.set_cons_zero])
  | (refine lx_callg HN.out ?_ ?_ ?_ ?_; (· kernel_rfl); (· exact ⟨by kernel_rfl, rfl⟩); (· intro W g; simp [go_sem]; done); simp only [Act.put, List.setIfInBounds_toArray, List.set_cons_succ, List.set_cons_zero]))
 simp only [List.drop_succ_cons, List.drop_zero]
 go_wp2_with (go_at_call 42; refine (HM.out _ _ _).mono ?_; rintro e w3 ⟨rfl, rfl⟩; simp only [cond_true])
 refine region_lg 9 GR (by kernel_rfl) (by kernel_rfl) (by kernel_rfl) (by kernel_rfl) ?_
 simp only [List.take_succ_cons, List.take_zero]
 repeat (first
  | (refine lx_end fun V0 GV => ?_)
  | (refine lx_no ?_ ?_ ?_; (· simp [Region.wanted]; done); (· kernel_rfl); simp only [Act.put, List.setIfInBounds_toArray, List.set_cons_succ, List.set_cons_zero])
  | (refine lx_val (v := ?_) ?_ ?_ ?_ ?_; rotate_left; (· kernel_rfl); (· exact ⟨by kernel_rfl, rfl⟩); (· intro W g; simp [go_sem, HK4.out W g, HF.out.x2 W g, HLj.out W g, hj', hj]; rfl); simp only [Act.put, List.setIfInBounds_toArray, List.set_cons_succ, List.set_cons_zero]))
 simp only [List.drop_succ_cons, List.drop_zero]
 go_wp2
 go_ret
 exact ⟨by rw [HR.out]; simp [ckE, Ck.ask, Ck.must, bind, Except.bind, hnb] <;> simp [List.getElem?_eq_getElem hj], grown_trans HG.out GV⟩
theorem ckLocal_no {N : Nat} {w : World} {SB : Nat} {c : Ck.En} {A : ScA} {loops nodes deep : Int} (h : Sc N w SB c A loops nodes deep) (op t n : Int) (s : ByteArray) (ax : Option Addr) (kx cx : Nat) {M : Nat} {aa : Option Addr} {ac : Nat} {l : List Int} (hk : l.length = 0) (hn : ∀ x, x ∈ l → 0 ≤ x ∧ x < (c.n : Int)) (hl : NumIn M w aa l.length ac (fun i => l.getD i 0)) (hnb : Ty.nmB c.f.locals.length n = false) : CkM 116 w SB op t n s ax kx cx aa l.length ac (Ck.ask c 4 t n l) := by
 obtain rfl : l = [] := List.length_eq_zero_iff.1 hk
 obtain ⟨W1, B4, HW, HG, HF⟩ := ck_open h op t n s ax kx cx
 clear hl hn
 have HM : Hid (∀ (b : Bool) (e : Int) W, Calls Tryz.prog 42 #[.bool b, .int .i64 e] W fun r w' => r = (bif b then .returned (.tuple #[]) else ckF e) ∧ w' = W) := ckMust_any
 obtain ⟨R, hR⟩ : ∃ R, R = ckE (Value.int .i64) (Ck.ask c 4 t n []) := ⟨_, rfl⟩
 unfold CkM
 rw [← hR]
 have HR : Hid (R = ckE (Value.int .i64) (Ck.ask c 4 t n [])) := hR
 clear hR h
 have hll := (HF.out.sc W1 (World.grownBy.refl _ _)).lo.le
 have hlm := (HF.out.sc W1 (World.grownBy.refl _ _)).lo.max
 unfold maxLen at hlm
 have HK4 : Hid (∀ W, W1.grownBy W none → W.cell? ⟨SB, 4, none⟩ = some (.slice A.la c.f.locals.length A.lc)) := HF.out.k4
 have HN : Hid (∀ W, W1.grownBy W none → Calls Tryz.prog 160 #[.int .i64 (c.f.locals.length : Int), .int .i64 n] W fun r w' => r = .returned (.bool false) ∧ W.grownBy w' none) := fun W g => (ckNum64_any _ _ W (by omega)).mono fun r w' ⟨hr, hw⟩ => ⟨by rw [hr, hnb], by rw [hw]; exact World.grownBy.refl _ _⟩
 go_enter Tryz.func116, Tryz.ntmps116
 go_wp2_with fail
 rw [HW.out.1, HW.out.2]
 refine region_lg 9 (World.grownBy.refl _ _) (by kernel_rfl) (by kernel_rfl) (by kernel_rfl) (by kernel_rfl) ?_
 simp only [List.take_succ_cons, List.take_zero]
 repeat (first
  | (refine lx_end fun W0 GR => ?_)
  | (refine lx_no ?_ ?_ ?_; (· simp [Region.wanted]; done); (· kernel_rfl); simp only [Act.put, List.setIfInBounds_toArray, List.set_cons_succ, List.set_cons_zero])
  | (refine lx_val (v := ?_) ?_ ?_ ?_ ?_; rotate_left; (· kernel_rfl); (· exact ⟨by kernel_rfl, rfl⟩); (· intro W g; simp [go_sem, HK4.out W g, HF.out.x2 W g]; rfl); simp only [Act.put, List.setIfInBounds_toArray, List.set_cons_succ, List.set_cons_zero])
  | (refine lx_callg HN.out ?_ ?_ ?_ ?_; (· kernel_rfl); (· exact ⟨by kernel_rfl, rfl⟩); (· intro W g; simp [go_sem]; done); simp only [Act.put, List.setIfInBounds_toArray, List.set_cons_succ, List.set_cons_zero]))
 simp only [List.drop_succ_cons, List.drop_zero]
 go_wp2_with (go_at_call 42; refine (HM.out _ _ _).mono ?_; rintro e w3 ⟨rfl, rfl⟩; simp only [cond_false])
 exact ⟨rfl, by rw [HR.out]; simp [ckE, Ck.ask, Ck.must, bind, Except.bind, hnb], grown_trans HG.out GR⟩
theorem ckLoad {N : Nat} {w : World} {SB : Nat} {c : Ck.En} {A : ScA} {loops nodes deep : Int} (h : Sc N w SB c A loops nodes deep) (op t n : Int) (s : ByteArray) (ax : Option Addr) (kx cx : Nat) {M : Nat} {aa : Option Addr} {ac : Nat} {l : List Int} (hk : l.length = 1) (hn : ∀ x, x ∈ l → 0 ≤ x ∧ x < (c.n : Int)) (hl : NumIn M w aa l.length ac (fun i => l.getD i 0)) : CkM 123 w SB op t n s ax kx cx aa l.length ac (Ck.ask c 12 t n l) := by
 obtain ⟨a0, rfl, h0⟩ := list1 hk hn
 obtain ⟨W1, B4, HW, HG, HF⟩ := ck_open h op t n s ax kx cx
 obtain ⟨ab, ao, rfl, HA, hac⟩ := nums_at (hl.grow HG.out) (by simp)
 have HA0 : Hid (∀ W, W1.grownBy W none → W.cell? ⟨ab, ao, none⟩ = some (.int .i64 (a0 : Int))) := fun W g => HA.out W g 0 (by simp)
 simp only [List.length_cons, List.length_nil, Nat.zero_add] at hac
 clear HA hl hn hk
 have HM : Hid (∀ (b : Bool) (e : Int) W, Calls Tryz.prog 42 #[.bool b, .int .i64 e] W fun r w' => r = (bif b then .returned (.tuple #[]) else ckF e) ∧ w' = W) := ckMust_any
 obtain ⟨R, hR⟩ : ∃ R, R = ckE (Value.int .i64) (Ck.ask c 12 t n [(a0 : Int)]) := ⟨_, rfl⟩
 unfold CkM
 rw [← hR]
 have HR : Hid (R = ckE (Value.int .i64) (Ck.ask c 12 t n [(a0 : Int)])) := hR
 clear hR h
 obtain ⟨el, hel⟩ : ∃ y : Int, y = (c.T a0).elem := ⟨_, rfl⟩
 obtain ⟨z0, hz_z0⟩ : ∃ z : Bool, z = ((c.T a0).kind == 11) := ⟨_, rfl⟩
 have HZ0 : Hid (((c.T a0).kind == 11) = z0) := hz_z0.symm
 have HB : Hid (∀ W, W1.grownBy W none → Calls Tryz.prog 169 #[.agg #[.slice A.ea c.n A.ec, .slice A.va c.n A.vc], .int .i64 (a0 : Int)] W fun r w' => r = .returned (.tuple #[.int .i64 el, .bool z0]) ∧ W.grownBy w' none) := fun W g => by rw [hz_z0, hel]; exact ckBehind_any (HF.out.sc W g).tb h0
 have HQ : Hid (Ck.kd c a0 = (c.T a0).kind ∧ Ck.el c a0 = el) := ⟨rfl, hel.symm⟩
 clear hz_z0 hel
 obtain ⟨zv, hz_zv⟩ : ∃ z : Bool, z = Ck.val c el := ⟨_, rfl⟩
 have HZv : Hid (Ck.val c el = zv) := hz_zv.symm
 have HV : Hid (∀ W, W1.grownBy W none → Calls Tryz.prog 92 #[.agg #[.slice A.ea c.n A.ec, .slice A.va c.n A.vc], .int .i64 (el : Int)] W fun r w' => r = .returned (.bool zv) ∧ W.grownBy w' none) := fun W g => by rw [hz_zv]; exact ckValue_any (HF.out.sc W g).tb el
 clear hz_zv
 generalize (c.T a0).kind = v0 at *
 cases z0
 case false =>
  go_enter Tryz.func123, Tryz.ntmps123
  go_wp2_with fail
  rw [HW.out.1, HW.out.2]
  refine region_lga 13 (World.grownBy.refl _ _) (by kernel_rfl) (by kernel_rfl) (by kernel_rfl) (by kernel_rfl) ?_
  repeat (first
   | (refine lx_end fun W0 GR => ?_)
   | (refine lx_no ?_ ?_ ?_; (· simp [Region.wanted]; done); (· kernel_rfl); simp only [Act.put, List.setIfInBounds_toArray, List.set_cons_succ, List.set_cons_zero])
   | (refine lx_val (v := ?_) ?_ ?_ ?_ ?_; rotate_left; (· kernel_rfl); (· exact ⟨by kernel_rfl, rfl⟩); (· intro W g; simp [go_sem, HF.out.k0 W g, HF.out.k1 W g, HA0.out W g]; rfl); simp only [Act.put, List.setIfInBounds_toArray, List.set_cons_succ, List.set_cons_zero])
   | (refine lx_callg HB.out ?_ ?_ ?_ ?_; (· kernel_rfl); (· exact ⟨by kernel_rfl, rfl⟩); (· intro W g; simp [go_sem]; done); simp only [Act.put, List.setIfInBounds_toArray, List.set_cons_succ, List.set_cons_zero]))
  go_wp2_with (go_at_call 42; refine (HM.out _ _ _).mono ?_; rintro e w3 ⟨rfl, rfl⟩; simp only [cond_false])
  exact ⟨rfl, by rw [HR.out]; simp [ckE, Ck.ask, Ck.must, bind, Except.bind, HQ.out.1, HQ.out.2, HZ0.out, HZv.out], grown_trans HG.out GR⟩
 case true =>
  cases zv
  case false =>
   go_enter Tryz.func123, Tryz.ntmps123
   go_wp2_with fail
   rw [HW.out.1, HW.out.2]
   refine region_lga 13 (World.grownBy.refl _ _) (by kernel_rfl) (by kernel_rfl) (by kernel_rfl) (by kernel_rfl) ?_
   repeat (first
    | (refine lx_end fun W0 GR => ?_)
    | (refine lx_no ?_ ?_ ?_; (· simp [Region.wanted]; done); (· kernel_rfl); simp only [Act.put, List.setIfInBounds_toArray, List.set_cons_succ, List.set_cons_zero])
    | (refine lx_val (v := ?_) ?_ ?_ ?_ ?_; rotate_left; (· kernel_rfl); (· exact ⟨by kernel_rfl, rfl⟩); (· intro W g; simp [go_sem, HF.out.k0 W g, HF.out.k1 W g, HA0.out W g]; rfl); simp only [Act.put, List.setIfInBounds_toArray, List.set_cons_succ, List.set_cons_zero])
    | (refine lx_callg HB.out ?_ ?_ ?_ ?_; (· kernel_rfl); (· exact ⟨by kernel_rfl, rfl⟩); (· intro W g; simp [go_sem]; done); simp only [Act.put, List.setIfInBounds_toArray, List.set_cons_succ, List.set_cons_zero]))
   have r0 := HF.out.k0 W0 GR
   have r1 := HF.out.k1 W0 GR
   go_wp2_with (first | (go_at_call 42; refine (HM.out _ _ _).mono ?_; rintro e w3 ⟨rfl, rfl⟩; simp only [cond_false]) | (go_at_call 92; refine (HV.out _ GR).mono ?_; rintro e w7 ⟨rfl, hg7⟩; have HG7 : Hid (W1.grownBy w7 none) := grown_trans GR hg7; clear hg7))
   exact ⟨rfl, by rw [HR.out]; simp [ckE, Ck.ask, Ck.must, bind, Except.bind, HQ.out.1, HQ.out.2, HZ0.out, HZv.out], grown_trans HG.out HG7.out⟩
  case true =>
   go_enter Tryz.func123, Tryz.ntmps123
   go_wp2_with fail
   rw [HW.out.1, HW.out.2]
   refine region_lga 13 (World.grownBy.refl _ _) (by kernel_rfl) (by kernel_rfl) (by kernel_rfl) (by kernel_rfl) ?_
   repeat (first
    | (refine lx_end fun W0 GR => ?_)
    | (refine lx_no ?_ ?_ ?_; (· simp [Region.wanted]; done); (· kernel_rfl); simp only [Act.put, List.setIfInBounds_toArray, List.set_cons_succ, List.set_cons_zero])
    | (refine lx_val (v := ?_) ?_ ?_ ?_ ?_; rotate_left; (· kernel_rfl); (· exact ⟨by kernel_rfl, rfl⟩); (· intro W g; simp [go_sem, HF.out.k0 W g, HF.out.k1 W g, HA0.out W g]; rfl); simp only [Act.put, List.setIfInBounds_toArray, List.set_cons_succ, List.set_cons_zero])
    | (refine lx_callg HB.out ?_ ?_ ?_ ?_; (· kernel_rfl); (· exact ⟨by kernel_rfl, rfl⟩); (· intro W g; simp [go_sem]; done); simp only [Act.put, List.setIfInBounds_toArray, List.set_cons_succ, List.set_cons_zero]))
   have r0 := HF.out.k0 W0 GR
   have r1 := HF.out.k1 W0 GR
   go_wp2_with (first | (go_at_call 42; refine (HM.out _ _ _).mono ?_; rintro e w3 ⟨rfl, rfl⟩; simp only [cond_true]) | (go_at_call 92; refine (HV.out _ GR).mono ?_; rintro e w7 ⟨rfl, hg7⟩; have HG7 : Hid (W1.grownBy w7 none) := grown_trans GR hg7; clear hg7))
   go_ret
   exact ⟨by rw [HR.out]; simp [ckE, Ck.ask, Ck.must, bind, Except.bind, HQ.out.1, HQ.out.2, HZ0.out, HZv.out], grown_trans HG.out HG7.out⟩
theorem ckElementAt {N : Nat} {w : World} {SB : Nat} {c : Ck.En} {A : ScA} {loops nodes deep : Int} (h : Sc N w SB c A loops nodes deep) (op t n : Int) (s : ByteArray) (ax : Option Addr) (kx cx : Nat) {M : Nat} {aa : Option Addr} {ac : Nat} {l : List Int} (hk : l.length = 2) (hn : ∀ x, x ∈ l → 0 ≤ x ∧ x < (c.n : Int)) (hl : NumIn M w aa l.length ac (fun i => l.getD i 0)) (ht : 0 ≤ t ∧ t < (c.n : Int)) (hp : ∀ a : Nat, a < c.n → (c.T a).kind = 11 → 0 ≤ (c.T a).elem ∧ (c.T a).elem < (c.n : Int)) : CkM 125 w SB op t n s ax kx cx aa l.length ac (Ck.ask c 14 t n l) := by
 obtain ⟨tn, rfl, htn⟩ := ent_nat ht
 clear ht
 obtain ⟨a0, a1, rfl, h0, h1⟩ := list2 hk hn
 obtain ⟨W1, B4, HW, HG, HF⟩ := ck_open h op (tn : Int) n s ax kx cx
 obtain ⟨ab, ao, rfl, HA, hac⟩ := nums_at (hl.grow HG.out) (by simp)
 have HA0 : Hid (∀ W, W1.grownBy W none → W.cell? ⟨ab, ao, none⟩ = some (.int .i64 (a0 : Int))) := fun W g => HA.out W g 0 (by simp)
 have HA1 : Hid (∀ W, W1.grownBy W none → W.cell? ⟨ab, ao + 1, none⟩ = some (.int .i64 (a1 : Int))) := fun W g => HA.out W g 1 (by simp)
 simp only [List.length_cons, List.length_nil, Nat.zero_add, Nat.reduceAdd] at hac
 clear HA hl hn hk
 have HM : Hid (∀ (b : Bool) (e : Int) W, Calls Tryz.prog 42 #[.bool b, .int .i64 e] W fun r w' => r = (bif b then .returned (.tuple #[]) else ckF e) ∧ w' = W) := ckMust_any
 obtain ⟨R, hR⟩ : ∃ R, R = ckE (Value.int .i64) (Ck.ask c 14 (tn : Int) n [(a0 : Int), (a1 : Int)]) := ⟨_, rfl⟩
 unfold CkM
 rw [← hR]
 have HR : Hid (R = ckE (Value.int .i64) (Ck.ask c 14 (tn : Int) n [(a0 : Int), (a1 : Int)])) := hR
 clear hR h
 obtain ⟨zi, hz_zi⟩ : ∃ z : Bool, z = (if Ck.kd c a0 = 11 then Ck.kd c (Ck.el c a0) == 12 else Ck.kd c a0 == 14) := ⟨_, rfl⟩
 have HZi : Hid ((if Ck.kd c a0 = 11 then Ck.kd c (Ck.el c a0) == 12 else Ck.kd c a0 == 14) = zi) := hz_zi.symm
 obtain ⟨to, hto⟩ : ∃ y : Int, y = (if Ck.kd c a0 = 11 then Ck.el c (Ck.el c a0) else Ck.el c a0) := ⟨_, rfl⟩
 have HE : Hid (∀ W, W1.grownBy W none → Calls Tryz.prog 171 #[.agg #[.slice A.ea c.n A.ec, .slice A.va c.n A.vc], .int .i64 (a0 : Int)] W fun r w' => r = .returned (.tuple #[.int .i64 to, .bool zi]) ∧ W.grownBy w' none) := fun W g => by
   by_cases hk : (c.T a0).kind = 11
   ·obtain ⟨hk1, hk2⟩ := hp a0 h0 hk
    obtain ⟨j, hj⟩ : ∃ j : Nat, (c.T a0).elem = j := ⟨(c.T a0).elem.toNat, by omega⟩
    have e1 : zi = ((c.T j).kind == 12) := by rw [hz_zi, if_pos (show Ck.kd c a0 = 11 from hk)]; unfold Ck.kd Ck.el; rw [Int.toNat_natCast, hj, Int.toNat_natCast]
    have e2 : to = (c.T j).elem := by rw [hto, if_pos (show Ck.kd c a0 = 11 from hk)]; unfold Ck.el; rw [Int.toNat_natCast, hj, Int.toNat_natCast]
    rw [e1, e2]
    exact ckElement_ptr (HF.out.sc W g).tb h0 (by omega) hk hj
   ·have e1 : zi = ((c.T a0).kind == 14) := by rw [hz_zi, if_neg (show ¬ Ck.kd c a0 = 11 from hk)]; rfl
    have e2 : to = (c.T a0).elem := by rw [hto, if_neg (show ¬ Ck.kd c a0 = 11 from hk)]; rfl
    rw [e1, e2]
    exact ckElement_no (HF.out.sc W g).tb h0 hk
 have HTo : Hid ((if Ck.kd c a0 = 11 then Ck.el c (Ck.el c a0) else Ck.el c a0) = to) := hto.symm
 clear hto hz_zi
 obtain ⟨z1, hz_z1⟩ : ∃ z : Bool, z = Ck.intK c a1 := ⟨_, rfl⟩
 have HZ1 : Hid (Ck.intK c a1 = z1) := hz_z1.symm
 have HI : Hid (∀ W, W1.grownBy W none → Calls Tryz.prog 172 #[.agg #[.slice A.ea c.n A.ec, .slice A.va c.n A.vc], .int .i64 (a1 : Int)] W fun r w' => r = .returned (.bool z1) ∧ W.grownBy w' none) := fun W g => by rw [hz_z1]; exact ckInt_any (HF.out.sc W g).tb h1
 clear hz_z1
 obtain ⟨z2, hz_z2⟩ : ∃ z : Bool, z = Ck.ptr c tn to := ⟨_, rfl⟩
 have HZ2 : Hid (Ck.ptr c tn to = z2) := hz_z2.symm
 have HP : Hid (∀ W, W1.grownBy W none → Calls Tryz.prog 170 #[.agg #[.slice A.ea c.n A.ec, .slice A.va c.n A.vc], .int .i64 (tn : Int), .int .i64 to] W fun r w' => r = .returned (.bool z2) ∧ W.grownBy w' none) := fun W g => by rw [hz_z2]; exact ckPoints_any (HF.out.sc W g).tb htn to
 clear hz_z2 hp
 cases zi
 case false =>
  go_enter Tryz.func125, Tryz.ntmps125
  go_wp2_with fail
  rw [HW.out.1, HW.out.2]
  refine region_lga 13 (World.grownBy.refl _ _) (by kernel_rfl) (by kernel_rfl) (by kernel_rfl) (by kernel_rfl) ?_
  repeat (first
   | (refine lx_end fun W0 GR => ?_)
   | (refine lx_no ?_ ?_ ?_; (· simp [Region.wanted]; done); (· kernel_rfl); simp only [Act.put, List.setIfInBounds_toArray, List.set_cons_succ, List.set_cons_zero])
   | (refine lx_val (v := ?_) ?_ ?_ ?_ ?_; rotate_left; (· kernel_rfl); (· exact ⟨by kernel_rfl, rfl⟩); (· intro W g; simp [go_sem, HF.out.k0 W g, HF.out.k1 W g, HA0.out W g]; rfl); simp only [Act.put, List.setIfInBounds_toArray, List.set_cons_succ, List.set_cons_zero])
   | (refine lx_callg HE.out ?_ ?_ ?_ ?_; (· kernel_rfl); (· exact ⟨by kernel_rfl, rfl⟩); (· intro W g; simp [go_sem]; done); simp only [Act.put, List.setIfInBounds_toArray, List.set_cons_succ, List.set_cons_zero]))
  go_wp2_with fail
  refine region_lg 21 GR (by kernel_rfl) (by kernel_rfl) (by kernel_rfl) (by kernel_rfl) ?_
  simp only [List.take_succ_cons, List.take_zero]
  repeat (first
   | (refine lx_end fun V0 GV => ?_)
   | (refine lx_no ?_ ?_ ?_; (· simp [Region.wanted, yielded]; done); (· kernel_rfl); simp only [Act.put, List.setIfInBounds_toArray, List.set_cons_succ, List.set_cons_zero])
   | (refine lx_val (v := ?_) ?_ ?_ ?_ ?_; rotate_left; (· kernel_rfl); (· exact ⟨by kernel_rfl, rfl⟩); (· intro W g; simp [go_sem]; rfl); simp only [Act.put, List.setIfInBounds_toArray, List.set_cons_succ, List.set_cons_zero])
   | (refine lx_callg HI.out ?_ ?_ ?_ ?_; (· kernel_rfl); (· exact ⟨by kernel_rfl, rfl⟩); (· intro W g; simp [go_sem]; done); simp only [Act.put, List.setIfInBounds_toArray, List.set_cons_succ, List.set_cons_zero])
   | (refine lx_callg HP.out ?_ ?_ ?_ ?_; (· kernel_rfl); (· exact ⟨by kernel_rfl, rfl⟩); (· intro W g; simp [go_sem]; done); simp only [Act.put, List.setIfInBounds_toArray, List.set_cons_succ, List.set_cons_zero]))
  simp only [List.drop_succ_cons, List.drop_zero]
  have r0 := HF.out.x1 V0 GV
  go_wp2_with (go_at_call 42; refine (HM.out _ _ _).mono ?_; rintro e w3 ⟨rfl, rfl⟩; simp only [cond_false])
  exact ⟨rfl, by rw [HR.out]; simp only [Ck.ask, List.getD_cons_zero, List.getD_cons_succ]; simp [HZi.out, HTo.out, HZ1.out, HZ2.out, ckE, Ck.must, bind, Except.bind], grown_trans HG.out GV⟩
 case true =>
  cases z1
  case false =>
   go_enter Tryz.func125, Tryz.ntmps125
   go_wp2_with fail
   rw [HW.out.1, HW.out.2]
   refine region_lga 13 (World.grownBy.refl _ _) (by kernel_rfl) (by kernel_rfl) (by kernel_rfl) (by kernel_rfl) ?_
   repeat (first
    | (refine lx_end fun W0 GR => ?_)
    | (refine lx_no ?_ ?_ ?_; (· simp [Region.wanted]; done); (· kernel_rfl); simp only [Act.put, List.setIfInBounds_toArray, List.set_cons_succ, List.set_cons_zero])
    | (refine lx_val (v := ?_) ?_ ?_ ?_ ?_; rotate_left; (· kernel_rfl); (· exact ⟨by kernel_rfl, rfl⟩); (· intro W g; simp [go_sem, HF.out.k0 W g, HF.out.k1 W g, HA0.out W g]; rfl); simp only [Act.put, List.setIfInBounds_toArray, List.set_cons_succ, List.set_cons_zero])
    | (refine lx_callg HE.out ?_ ?_ ?_ ?_; (· kernel_rfl); (· exact ⟨by kernel_rfl, rfl⟩); (· intro W g; simp [go_sem]; done); simp only [Act.put, List.setIfInBounds_toArray, List.set_cons_succ, List.set_cons_zero]))
   go_wp2_with fail
   refine region_lg 21 GR (by kernel_rfl) (by kernel_rfl) (by kernel_rfl) (by kernel_rfl) ?_
   simp only [List.take_succ_cons, List.take_zero]
   repeat (first
    | (refine lx_end fun V0 GV => ?_)
    | (refine lx_no ?_ ?_ ?_; (· simp [Region.wanted, yielded]; done); (· kernel_rfl); simp only [Act.put, List.setIfInBounds_toArray, List.set_cons_succ, List.set_cons_zero])
    | (refine lx_val (v := ?_) ?_ ?_ ?_ ?_; rotate_left; (· kernel_rfl); (· exact ⟨by kernel_rfl, rfl⟩); (· intro W g; simp [go_sem, HF.out.k0 W g, HF.out.k1 W g, HA1.out W g]; rfl); simp only [Act.put, List.setIfInBounds_toArray, List.set_cons_succ, List.set_cons_zero])
    | (refine lx_callg HI.out ?_ ?_ ?_ ?_; (· kernel_rfl); (· exact ⟨by kernel_rfl, rfl⟩); (· intro W g; simp [go_sem]; done); simp only [Act.put, List.setIfInBounds_toArray, List.set_cons_succ, List.set_cons_zero])
    | (refine lx_callg HP.out ?_ ?_ ?_ ?_; (· kernel_rfl); (· exact ⟨by kernel_rfl, rfl⟩); (· intro W g; simp [go_sem]; done); simp only [Act.put, List.setIfInBounds_toArray, List.set_cons_succ, List.set_cons_zero]))
   simp only [List.drop_succ_cons, List.drop_zero]
   have r0 := HF.out.x1 V0 GV
   go_wp2_with (go_at_call 42; refine (HM.out _ _ _).mono ?_; rintro e w3 ⟨rfl, rfl⟩; simp only [cond_false])
   exact ⟨rfl, by rw [HR.out]; simp only [Ck.ask, List.getD_cons_zero, List.getD_cons_succ]; simp [HZi.out, HTo.out, HZ1.out, HZ2.out, ckE, Ck.must, bind, Except.bind], grown_trans HG.out GV⟩
  case true =>
   cases z2
   case false =>
    go_enter Tryz.func125, Tryz.ntmps125
    go_wp2_with fail
    rw [HW.out.1, HW.out.2]
    refine region_lga 13 (World.grownBy.refl _ _) (by kernel_rfl) (by kernel_rfl) (by kernel_rfl) (by kernel_rfl) ?_
    repeat (first
     | (refine lx_end fun W0 GR => ?_)
     | (refine lx_no ?_ ?_ ?_; (· simp [Region.wanted]; done); (· kernel_rfl); simp only [Act.put, List.setIfInBounds_toArray, List.set_cons_succ, List.set_cons_zero])
     | (refine lx_val (v := ?_) ?_ ?_ ?_ ?_; rotate_left; (· kernel_rfl); (· exact ⟨by kernel_rfl, rfl⟩); (· intro W g; simp [go_sem, HF.out.k0 W g, HF.out.k1 W g, HA0.out W g]; rfl); simp only [Act.put, List.setIfInBounds_toArray, List.set_cons_succ, List.set_cons_zero])
     | (refine lx_callg HE.out ?_ ?_ ?_ ?_; (· kernel_rfl); (· exact ⟨by kernel_rfl, rfl⟩); (· intro W g; simp [go_sem]; done); simp only [Act.put, List.setIfInBounds_toArray, List.set_cons_succ, List.set_cons_zero]))
    go_wp2_with fail
    refine region_lg 21 GR (by kernel_rfl) (by kernel_rfl) (by kernel_rfl) (by kernel_rfl) ?_
    simp only [List.take_succ_cons, List.take_zero]
    repeat (first
     | (refine lx_end fun V0 GV => ?_)
     | (refine lx_no ?_ ?_ ?_; (· simp [Region.wanted, yielded]; done); (· kernel_rfl); simp only [Act.put, List.setIfInBounds_toArray, List.set_cons_succ, List.set_cons_zero])
     | (refine lx_val (v := ?_) ?_ ?_ ?_ ?_; rotate_left; (· kernel_rfl); (· exact ⟨by kernel_rfl, rfl⟩); (· intro W g; simp [go_sem, HF.out.k0 W g, HF.out.k1 W g, HF.out.x1 W g, HA1.out W g]; rfl); simp only [Act.put, List.setIfInBounds_toArray, List.set_cons_succ, List.set_cons_zero])
     | (refine lx_callg HI.out ?_ ?_ ?_ ?_; (· kernel_rfl); (· exact ⟨by kernel_rfl, rfl⟩); (· intro W g; simp [go_sem]; done); simp only [Act.put, List.setIfInBounds_toArray, List.set_cons_succ, List.set_cons_zero])
     | (refine lx_callg HP.out ?_ ?_ ?_ ?_; (· kernel_rfl); (· exact ⟨by kernel_rfl, rfl⟩); (· intro W g; simp [go_sem]; done); simp only [Act.put, List.setIfInBounds_toArray, List.set_cons_succ, List.set_cons_zero]))
    simp only [List.drop_succ_cons, List.drop_zero]
    have r0 := HF.out.x1 V0 GV
    go_wp2_with (go_at_call 42; refine (HM.out _ _ _).mono ?_; rintro e w3 ⟨rfl, rfl⟩; simp only [cond_false])
    exact ⟨rfl, by rw [HR.out]; simp only [Ck.ask, List.getD_cons_zero, List.getD_cons_succ]; simp [HZi.out, HTo.out, HZ1.out, HZ2.out, ckE, Ck.must, bind, Except.bind], grown_trans HG.out GV⟩
   case true =>
    go_enter Tryz.func125, Tryz.ntmps125
    go_wp2_with fail
    rw [HW.out.1, HW.out.2]
    refine region_lga 13 (World.grownBy.refl _ _) (by kernel_rfl) (by kernel_rfl) (by kernel_rfl) (by kernel_rfl) ?_
    repeat (first
     | (refine lx_end fun W0 GR => ?_)
     | (refine lx_no ?_ ?_ ?_; (· simp [Region.wanted]; done); (· kernel_rfl); simp only [Act.put, List.setIfInBounds_toArray, List.set_cons_succ, List.set_cons_zero])
     | (refine lx_val (v := ?_) ?_ ?_ ?_ ?_; rotate_left; (· kernel_rfl); (· exact ⟨by kernel_rfl, rfl⟩); (· intro W g; simp [go_sem, HF.out.k0 W g, HF.out.k1 W g, HA0.out W g]; rfl); simp only [Act.put, List.setIfInBounds_toArray, List.set_cons_succ, List.set_cons_zero])
     | (refine lx_callg HE.out ?_ ?_ ?_ ?_; (· kernel_rfl); (· exact ⟨by kernel_rfl, rfl⟩); (· intro W g; simp [go_sem]; done); simp only [Act.put, List.setIfInBounds_toArray, List.set_cons_succ, List.set_cons_zero]))
    go_wp2_with fail
    refine region_lg 21 GR (by kernel_rfl) (by kernel_rfl) (by kernel_rfl) (by kernel_rfl) ?_
    simp only [List.take_succ_cons, List.take_zero]
    repeat (first
     | (refine lx_end fun V0 GV => ?_)
     | (refine lx_no ?_ ?_ ?_; (· simp [Region.wanted, yielded]; done); (· kernel_rfl); simp only [Act.put, List.setIfInBounds_toArray, List.set_cons_succ, List.set_cons_zero])
     | (refine lx_val (v := ?_) ?_ ?_ ?_ ?_; rotate_left; (· kernel_rfl); (· exact ⟨by kernel_rfl, rfl⟩); (· intro W g; simp [go_sem, HF.out.k0 W g, HF.out.k1 W g, HF.out.x1 W g, HA1.out W g]; rfl); simp only [Act.put, List.setIfInBounds_toArray, List.set_cons_succ, List.set_cons_zero])
     | (refine lx_callg HI.out ?_ ?_ ?_ ?_; (· kernel_rfl); (· exact ⟨by kernel_rfl, rfl⟩); (· intro W g; simp [go_sem]; done); simp only [Act.put, List.setIfInBounds_toArray, List.set_cons_succ, List.set_cons_zero])
     | (refine lx_callg HP.out ?_ ?_ ?_ ?_; (· kernel_rfl); (· exact ⟨by kernel_rfl, rfl⟩); (· intro W g; simp [go_sem]; done); simp only [Act.put, List.setIfInBounds_toArray, List.set_cons_succ, List.set_cons_zero]))
    simp only [List.drop_succ_cons, List.drop_zero]
    have r0 := HF.out.x1 V0 GV
    go_wp2_with (go_at_call 42; refine (HM.out _ _ _).mono ?_; rintro e w3 ⟨rfl, rfl⟩; simp only [cond_true])
    go_ret
    exact ⟨by rw [HR.out]; simp only [Ck.ask, List.getD_cons_zero, List.getD_cons_succ]; simp [HZi.out, HTo.out, HZ1.out, HZ2.out, ckE, Ck.must, bind, Except.bind], grown_trans HG.out GV⟩
theorem ckAddress {N : Nat} {w : World} {SB : Nat} {c : Ck.En} {A : ScA} {loops nodes deep : Int} (h : Sc N w SB c A loops nodes deep) (op t n : Int) (s : ByteArray) (ax : Option Addr) (kx cx : Nat) {M : Nat} {aa : Option Addr} {ac : Nat} {l : List Int} (hk : l.length = 1) (hn : ∀ x, x ∈ l → 0 ≤ x ∧ x < (c.n : Int)) (hl : NumIn M w aa l.length ac (fun i => l.getD i 0)) (ht : 0 ≤ t ∧ t < (c.n : Int)) (hp : ∀ a : Nat, a < c.n → (c.T a).kind = 11 → 0 ≤ (c.T a).elem ∧ (c.T a).elem < (c.n : Int)) : CkM 124 w SB op t n s ax kx cx aa l.length ac (Ck.ask c 13 t n l) := by
 obtain ⟨tn, rfl, htn⟩ := ent_nat ht
 clear ht
 obtain ⟨a0, rfl, h0⟩ := list1 hk hn
 obtain ⟨W1, B4, HW, HG, HF⟩ := ck_open h op (tn : Int) n s ax kx cx
 obtain ⟨ab, ao, rfl, HA, hac⟩ := nums_at (hl.grow HG.out) (by simp)
 have HA0 : Hid (∀ W, W1.grownBy W none → W.cell? ⟨ab, ao, none⟩ = some (.int .i64 (a0 : Int))) := fun W g => HA.out W g 0 (by simp)
 simp only [List.length_cons, List.length_nil, Nat.zero_add] at hac
 clear HA hl hn hk
 have HM : Hid (∀ (b : Bool) (e : Int) W, Calls Tryz.prog 42 #[.bool b, .int .i64 e] W fun r w' => r = (bif b then .returned (.tuple #[]) else ckF e) ∧ w' = W) := ckMust_any
 obtain ⟨R, hR⟩ : ∃ R, R = ckE (Value.int .i64) (Ck.ask c 13 (tn : Int) n [(a0 : Int)]) := ⟨_, rfl⟩
 unfold CkM
 rw [← hR]
 have HR : Hid (R = ckE (Value.int .i64) (Ck.ask c 13 (tn : Int) n [(a0 : Int)])) := hR
 clear hR h
 obtain ⟨z0, hz_z0⟩ : ∃ z : Bool, z = ((c.T a0).kind == 11) := ⟨_, rfl⟩
 have HZ0 : Hid (((c.T a0).kind == 11) = z0) := hz_z0.symm
 obtain ⟨el, hel⟩ : ∃ y : Int, y = (c.T a0).elem := ⟨_, rfl⟩
 have HB : Hid (∀ W, W1.grownBy W none → Calls Tryz.prog 169 #[.agg #[.slice A.ea c.n A.ec, .slice A.va c.n A.vc], .int .i64 (a0 : Int)] W fun r w' => r = .returned (.tuple #[.int .i64 el, .bool z0]) ∧ W.grownBy w' none) := fun W g => by rw [hz_z0, hel]; exact ckBehind_any (HF.out.sc W g).tb h0
 have HQ : Hid (Ck.kd c a0 = (c.T a0).kind ∧ Ck.el c a0 = el) := ⟨rfl, hel.symm⟩
 cases z0
 case false =>
  clear hp hel hz_z0
  generalize (c.T a0).kind = v0 at *
  go_enter Tryz.func124, Tryz.ntmps124
  go_wp2_with fail
  rw [HW.out.1, HW.out.2]
  refine region_lga 13 (World.grownBy.refl _ _) (by kernel_rfl) (by kernel_rfl) (by kernel_rfl) (by kernel_rfl) ?_
  repeat (first
   | (refine lx_end fun W0 GR => ?_)
   | (refine lx_no ?_ ?_ ?_; (· simp [Region.wanted]; done); (· kernel_rfl); simp only [Act.put, List.setIfInBounds_toArray, List.set_cons_succ, List.set_cons_zero])
   | (refine lx_val (v := ?_) ?_ ?_ ?_ ?_; rotate_left; (· kernel_rfl); (· exact ⟨by kernel_rfl, rfl⟩); (· intro W g; simp [go_sem, HF.out.k0 W g, HF.out.k1 W g, HA0.out W g]; rfl); simp only [Act.put, List.setIfInBounds_toArray, List.set_cons_succ, List.set_cons_zero])
   | (refine lx_callg HB.out ?_ ?_ ?_ ?_; (· kernel_rfl); (· exact ⟨by kernel_rfl, rfl⟩); (· intro W g; simp [go_sem]; done); simp only [Act.put, List.setIfInBounds_toArray, List.set_cons_succ, List.set_cons_zero]))
  go_wp2_with (go_at_call 42; refine (HM.out _ _ _).mono ?_; rintro e w3 ⟨rfl, rfl⟩; simp only [cond_false])
  exact ⟨rfl, by rw [HR.out]; simp only [Ck.ask, List.getD_cons_zero, HQ.out.1, HQ.out.2]; simp [HZ0.out, ckE, Ck.must, bind, Except.bind], grown_trans HG.out GR⟩
 case true =>
  have hpp := hp a0 h0 (by simpa using hz_z0.symm)
  rw [← hel] at hpp
  obtain ⟨j, rfl, hj⟩ := ent_nat hpp
  clear hp hpp hel hz_z0
  generalize (c.T a0).kind = v0 at *
  obtain ⟨FR, hFR⟩ : ∃ r, r = Ck.fld c j n := ⟨_, rfl⟩
  have HL : Hid (∀ W, W1.grownBy W none → Calls Tryz.prog 167 #[.pointer (some ⟨SB, 0, none⟩), .int .i64 (j : Int), .int .i64 n] W fun e w' => e = ckE (Value.int .i64) FR ∧ W.grownBy w' none) := fun W g => by rw [hFR]; exact ckFieldOf_any (HF.out.sc W g) hj n
  have HFR : Hid (Ck.fld c j n = FR) := hFR.symm
  clear hFR
  cases FR with
  | error er =>
   have HL2 : Hid (∀ W, W1.grownBy W none → Calls Tryz.prog 167 #[.pointer (some ⟨SB, 0, none⟩), .int .i64 (j : Int), .int .i64 n] W fun e w' => e = ckF er ∧ W.grownBy w' none) := HL.out
   go_enter Tryz.func124, Tryz.ntmps124
   go_wp2_with fail
   rw [HW.out.1, HW.out.2]
   refine region_lga 13 (World.grownBy.refl _ _) (by kernel_rfl) (by kernel_rfl) (by kernel_rfl) (by kernel_rfl) ?_
   repeat (first
    | (refine lx_end fun W0 GR => ?_)
    | (refine lx_no ?_ ?_ ?_; (· simp [Region.wanted]; done); (· kernel_rfl); simp only [Act.put, List.setIfInBounds_toArray, List.set_cons_succ, List.set_cons_zero])
    | (refine lx_val (v := ?_) ?_ ?_ ?_ ?_; rotate_left; (· kernel_rfl); (· exact ⟨by kernel_rfl, rfl⟩); (· intro W g; simp [go_sem, HF.out.k0 W g, HF.out.k1 W g, HA0.out W g]; rfl); simp only [Act.put, List.setIfInBounds_toArray, List.set_cons_succ, List.set_cons_zero])
    | (refine lx_callg HB.out ?_ ?_ ?_ ?_; (· kernel_rfl); (· exact ⟨by kernel_rfl, rfl⟩); (· intro W g; simp [go_sem]; done); simp only [Act.put, List.setIfInBounds_toArray, List.set_cons_succ, List.set_cons_zero]))
   go_wp2_with (go_at_call 42; refine (HM.out _ _ _).mono ?_; rintro e w3 ⟨rfl, rfl⟩; simp only [cond_true])
   refine region_lg 12 GR (by kernel_rfl) (by kernel_rfl) (by kernel_rfl) (by kernel_rfl) ?_
   simp only [List.take_succ_cons, List.take_zero]
   repeat (first
    | (refine lx_end fun V0 GV => ?_)
    | (refine lx_no ?_ ?_ ?_; (· simp [Region.wanted]; done); (· kernel_rfl); simp only [Act.put, List.setIfInBounds_toArray, List.set_cons_succ, List.set_cons_zero])
    | (refine lx_never ?_ ?_ ?_; (· decide +kernel); (· kernel_rfl); simp only [Act.put, List.setIfInBounds_toArray, List.set_cons_succ, List.set_cons_zero])
    | (refine lx_val (v := ?_) ?_ ?_ ?_ ?_; rotate_left; (· kernel_rfl); (· exact ⟨by kernel_rfl, rfl⟩); (· intro W g; simp [go_sem, HF.out.k0 W g, HF.out.k1 W g, HF.out.x1 W g, HF.out.x2 W g]; rfl); simp only [Act.put, List.setIfInBounds_toArray, List.set_cons_succ, List.set_cons_zero])
    | (refine lx_stopg HL2.out ?_ ?_ ?_ ?_ ?_; (· kernel_rfl); (· exact ⟨by kernel_rfl, rfl⟩); (· intro W g; simp [go_sem]; done); (· intro W g ax9 hd; exact ⟨hd, by rw [HR.out]; simp only [Ck.ask, List.getD_cons_zero, HQ.out.1, HQ.out.2]; simp [HZ0.out, ckE, Ck.must, bind, Except.bind, HFR.out], grown_trans HG.out g⟩); simp only [Act.put, List.setIfInBounds_toArray, List.set_cons_succ, List.set_cons_zero])
    | exact lx_lost)
   all_goals simp only [List.drop_succ_cons, List.drop_zero]
  | ok v =>
   obtain ⟨z2, hz_z2⟩ : ∃ z : Bool, z = Ck.ptr c tn v := ⟨_, rfl⟩
   have HZ2 : Hid (Ck.ptr c tn v = z2) := hz_z2.symm
   have HP : Hid (∀ W, W1.grownBy W none → Calls Tryz.prog 170 #[.agg #[.slice A.ea c.n A.ec, .slice A.va c.n A.vc], .int .i64 (tn : Int), .int .i64 v] W fun r w' => r = .returned (.bool z2) ∧ W.grownBy w' none) := fun W g => by rw [hz_z2]; exact ckPoints_any (HF.out.sc W g).tb htn v
   clear hz_z2
   cases z2
   case false =>
    have HL2 : Hid (∀ W, W1.grownBy W none → Calls Tryz.prog 167 #[.pointer (some ⟨SB, 0, none⟩), .int .i64 (j : Int), .int .i64 n] W fun e w' => e = .returned (.int .i64 v) ∧ W.grownBy w' none) := HL.out
    go_enter Tryz.func124, Tryz.ntmps124
    go_wp2_with fail
    rw [HW.out.1, HW.out.2]
    refine region_lga 13 (World.grownBy.refl _ _) (by kernel_rfl) (by kernel_rfl) (by kernel_rfl) (by kernel_rfl) ?_
    repeat (first
     | (refine lx_end fun W0 GR => ?_)
     | (refine lx_no ?_ ?_ ?_; (· simp [Region.wanted]; done); (· kernel_rfl); simp only [Act.put, List.setIfInBounds_toArray, List.set_cons_succ, List.set_cons_zero])
     | (refine lx_val (v := ?_) ?_ ?_ ?_ ?_; rotate_left; (· kernel_rfl); (· exact ⟨by kernel_rfl, rfl⟩); (· intro W g; simp [go_sem, HF.out.k0 W g, HF.out.k1 W g, HA0.out W g]; rfl); simp only [Act.put, List.setIfInBounds_toArray, List.set_cons_succ, List.set_cons_zero])
     | (refine lx_callg HB.out ?_ ?_ ?_ ?_; (· kernel_rfl); (· exact ⟨by kernel_rfl, rfl⟩); (· intro W g; simp [go_sem]; done); simp only [Act.put, List.setIfInBounds_toArray, List.set_cons_succ, List.set_cons_zero]))
    go_wp2_with (go_at_call 42; refine (HM.out _ _ _).mono ?_; rintro e w3 ⟨rfl, rfl⟩; simp only [cond_true])
    refine region_lg 12 GR (by kernel_rfl) (by kernel_rfl) (by kernel_rfl) (by kernel_rfl) ?_
    simp only [List.take_succ_cons, List.take_zero]
    repeat (first
     | (refine lx_end fun V0 GV => ?_)
     | (refine lx_no ?_ ?_ ?_; (· simp [Region.wanted]; done); (· kernel_rfl); simp only [Act.put, List.setIfInBounds_toArray, List.set_cons_succ, List.set_cons_zero])
     | (refine lx_val (v := ?_) ?_ ?_ ?_ ?_; rotate_left; (· kernel_rfl); (· exact ⟨by kernel_rfl, rfl⟩); (· intro W g; simp [go_sem, HF.out.k0 W g, HF.out.k1 W g, HF.out.x1 W g, HF.out.x2 W g]; rfl); simp only [Act.put, List.setIfInBounds_toArray, List.set_cons_succ, List.set_cons_zero])
     | (refine lx_callg HL2.out ?_ ?_ ?_ ?_; (· kernel_rfl); (· exact ⟨by kernel_rfl, rfl⟩); (· intro W g; simp [go_sem]; done); simp only [Act.put, List.setIfInBounds_toArray, List.set_cons_succ, List.set_cons_zero])
     | (refine lx_callg HP.out ?_ ?_ ?_ ?_; (· kernel_rfl); (· exact ⟨by kernel_rfl, rfl⟩); (· intro W g; simp [go_sem]; done); simp only [Act.put, List.setIfInBounds_toArray, List.set_cons_succ, List.set_cons_zero]))
    simp only [List.drop_succ_cons, List.drop_zero]
    have r0 := HF.out.x1 V0 GV
    go_wp2_with (go_at_call 42; refine (HM.out _ _ _).mono ?_; rintro e w3 ⟨rfl, rfl⟩; simp only [cond_false])
    exact ⟨rfl, by rw [HR.out]; simp only [Ck.ask, List.getD_cons_zero, HQ.out.1, HQ.out.2]; simp [HZ0.out, ckE, Ck.must, bind, Except.bind, HFR.out, HZ2.out], grown_trans HG.out GV⟩
   case true =>
    have HL2 : Hid (∀ W, W1.grownBy W none → Calls Tryz.prog 167 #[.pointer (some ⟨SB, 0, none⟩), .int .i64 (j : Int), .int .i64 n] W fun e w' => e = .returned (.int .i64 v) ∧ W.grownBy w' none) := HL.out
    go_enter Tryz.func124, Tryz.ntmps124
    go_wp2_with fail
    rw [HW.out.1, HW.out.2]
    refine region_lga 13 (World.grownBy.refl _ _) (by kernel_rfl) (by kernel_rfl) (by kernel_rfl) (by kernel_rfl) ?_
    repeat (first
     | (refine lx_end fun W0 GR => ?_)
     | (refine lx_no ?_ ?_ ?_; (· simp [Region.wanted]; done); (· kernel_rfl); simp only [Act.put, List.setIfInBounds_toArray, List.set_cons_succ, List.set_cons_zero])
     | (refine lx_val (v := ?_) ?_ ?_ ?_ ?_; rotate_left; (· kernel_rfl); (· exact ⟨by kernel_rfl, rfl⟩); (· intro W g; simp [go_sem, HF.out.k0 W g, HF.out.k1 W g, HA0.out W g]; rfl); simp only [Act.put, List.setIfInBounds_toArray, List.set_cons_succ, List.set_cons_zero])
     | (refine lx_callg HB.out ?_ ?_ ?_ ?_; (· kernel_rfl); (· exact ⟨by kernel_rfl, rfl⟩); (· intro W g; simp [go_sem]; done); simp only [Act.put, List.setIfInBounds_toArray, List.set_cons_succ, List.set_cons_zero]))
    go_wp2_with (go_at_call 42; refine (HM.out _ _ _).mono ?_; rintro e w3 ⟨rfl, rfl⟩; simp only [cond_true])
    refine region_lg 12 GR (by kernel_rfl) (by kernel_rfl) (by kernel_rfl) (by kernel_rfl) ?_
    simp only [List.take_succ_cons, List.take_zero]
    repeat (first
     | (refine lx_end fun V0 GV => ?_)
     | (refine lx_no ?_ ?_ ?_; (· simp [Region.wanted]; done); (· kernel_rfl); simp only [Act.put, List.setIfInBounds_toArray, List.set_cons_succ, List.set_cons_zero])
     | (refine lx_val (v := ?_) ?_ ?_ ?_ ?_; rotate_left; (· kernel_rfl); (· exact ⟨by kernel_rfl, rfl⟩); (· intro W g; simp [go_sem, HF.out.k0 W g, HF.out.k1 W g, HF.out.x1 W g, HF.out.x2 W g]; rfl); simp only [Act.put, List.setIfInBounds_toArray, List.set_cons_succ, List.set_cons_zero])
     | (refine lx_callg HL2.out ?_ ?_ ?_ ?_; (· kernel_rfl); (· exact ⟨by kernel_rfl, rfl⟩); (· intro W g; simp [go_sem]; done); simp only [Act.put, List.setIfInBounds_toArray, List.set_cons_succ, List.set_cons_zero])
     | (refine lx_callg HP.out ?_ ?_ ?_ ?_; (· kernel_rfl); (· exact ⟨by kernel_rfl, rfl⟩); (· intro W g; simp [go_sem]; done); simp only [Act.put, List.setIfInBounds_toArray, List.set_cons_succ, List.set_cons_zero]))
    simp only [List.drop_succ_cons, List.drop_zero]
    have r0 := HF.out.x1 V0 GV
    go_wp2_with (go_at_call 42; refine (HM.out _ _ _).mono ?_; rintro e w3 ⟨rfl, rfl⟩; simp only [cond_true])
    go_ret
    exact ⟨by rw [HR.out]; simp only [Ck.ask, List.getD_cons_zero, HQ.out.1, HQ.out.2]; simp [HZ0.out, ckE, Ck.must, bind, Except.bind, HFR.out, HZ2.out], grown_trans HG.out GV⟩
end Go.Proofs.YtpcgkggpmipiaaaGreat
