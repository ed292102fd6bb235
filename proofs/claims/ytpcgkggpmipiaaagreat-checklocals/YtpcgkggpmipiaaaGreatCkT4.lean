/- What terms ask of their Args' types, a method each. -/
import Derived.Test.YtpcgkggpmipiaaaGreatG11
import Derived.Test.YtpcgkggpmipiaaaGreatG15
namespace Go.Proofs.YtpcgkggpmipiaaaGreat
open Go.RowKit
set_option linter.unusedVariables false
set_option maxRecDepth 100000
set_option maxHeartbeats 4000000
theorem NumIn.congr9 {N : Nat} {w : World} {a : Option Addr} {n c : Nat} {F : Nat → Int} (h : NumIn N w a n c F) : NumIn N w a n c (fun i => ((List.range n).map F).getD i 0) :=
 ⟨h.le, h.max, by
  rcases h.lie with h0 | ⟨b, off, e, hb, hi⟩
  ·exact .inl h0
  ·exact .inr ⟨b, off, e, hb, fun i hi2 => by rw [hi i hi2]; simp [List.getD_eq_getElem?_getD, hi2]⟩⟩
theorem ckStruct {N : Nat} {w : World} {SB : Nat} {c : Ck.En} {A : ScA} {loops nodes deep : Int} (h : Sc N w SB c A loops nodes deep) (op t n : Int) (s : ByteArray) (ax : Option Addr) (kx cx : Nat) {M : Nat} {aa : Option Addr} {ac : Nat} {l : List Int} (hn : ∀ x, x ∈ l → 0 ≤ x ∧ x < (c.n : Int)) (hl : NumIn M w aa l.length ac (fun i => l.getD i 0)) (ht : 0 ≤ t ∧ t < (c.n : Int)) : CkM 122 w SB op t n s ax kx cx aa l.length ac (Ck.ask c 11 t n l) := by
 obtain ⟨tn, rfl, htn⟩ := ent_nat ht
 clear ht
 obtain ⟨W1, B4, HW, HG, HF⟩ := ck_open h op (tn : Int) n s ax kx cx
 have HM : Hid (∀ (b : Bool) (e : Int) W, Calls Tryz.prog 42 #[.bool b, .int .i64 e] W fun r w' => r = (bif b then .returned (.tuple #[]) else ckF e) ∧ w' = W) := ckMust_any
 obtain ⟨R, hR⟩ : ∃ R, R = ckE (Value.int .i64) (Ck.ask c 11 (tn : Int) n l) := ⟨_, rfl⟩
 unfold CkM
 rw [← hR]
 have HR : Hid (R = ckE (Value.int .i64) (Ck.ask c 11 (tn : Int) n l)) := hR
 clear hR h
 have HK : Hid (∀ W, W1.grownBy W none → Calls Tryz.prog 93 #[.agg #[.slice A.ea c.n A.ec, .slice A.va c.n A.vc], .int .i64 (tn : Int)] W fun r w' => r = .returned (.int .i64 (c.T tn).kind) ∧ W.grownBy w' none) := fun W g => ckKind_any (HF.out.sc W g).tb htn
 obtain ⟨zv, hz_zv⟩ : ∃ z : Bool, z = Ck.val c tn := ⟨_, rfl⟩
 have HZv : Hid (Ck.val c tn = zv) := hz_zv.symm
 have HV : Hid (∀ W, W1.grownBy W none → Calls Tryz.prog 92 #[.agg #[.slice A.ea c.n A.ec, .slice A.va c.n A.vc], .int .i64 (tn : Int)] W fun r w' => r = .returned (.bool zv) ∧ W.grownBy w' none) := fun W g => by rw [hz_zv]; exact ckValue_any (HF.out.sc W g).tb (tn : Int)
 clear hz_zv
 obtain ⟨eb, eo, fa, fc, hea, _, hty⟩ := (HF.out.sc W1 (World.grownBy.refl _ _)).tb.t.at htn
 have HC3 : Hid (∀ W, W1.grownBy W none → W.cell? ⟨eb, eo + tn * 4 + 3, none⟩ = some (.slice fa (c.T tn).nf fc)) := fun W g => g.cell hty.c3 (by simp)
 have HK0 : Hid (∀ W, W1.grownBy W none → W.cell? ⟨SB, 0, none⟩ = some (.slice (some ⟨eb, eo, none⟩) c.n A.ec)) := fun W g => by rw [← hea]; exact HF.out.k0 W g
 have hnu := hty.f
 have hnx := hnu.max
 have hnc := hnu.le
 unfold maxLen at hnx
 have hlx := hl.max
 have hlc := hl.le
 unfold maxLen at hlx
 have ht' : (tn : Int) < c.n := by omega
 have hec := (HF.out.sc W1 (World.grownBy.refl _ _)).tb.t.le
 obtain ⟨ze, hz_ze⟩ : ∃ z : Bool, z = (l == Ck.fd c tn) := ⟨_, rfl⟩
 have HZe : Hid ((l == Ck.fd c tn) = ze) := hz_ze.symm
 have HE : Hid (∀ W, W1.grownBy W none → Calls Tryz.prog 168 #[.slice aa l.length ac, .slice fa (c.T tn).nf fc] W fun r w' => r = .returned (.bool ze) ∧ W.grownBy w' none) := fun W g => by
  have h9 := ckEqual_any (m := (List.range (c.T tn).nf).map (c.T tn).F) ((hl.grow HG.out).grow g) (b := fa) (bc := fc) (M := N) (by rw [List.length_map, List.length_range]; exact NumIn.congr9 (hnu.grow g))
  rw [List.length_map, List.length_range] at h9
  rw [hz_ze]
  exact h9
 clear hz_ze hea hty hnu hl hn
 have HQ : Hid (Ck.kd c tn = (c.T tn).kind) := rfl
 generalize (c.T tn).kind = v0 at *
 generalize hnf : (c.T tn).nf = nf at *
 have HNf : Hid ((c.T tn).nf = nf) := hnf
 clear hnf
 cases zv
 case false =>
  rcases Bool.eq_false_or_eq_true (v0 == 13) with q0 | q0
  ·skip
   go_enter Tryz.func122, Tryz.ntmps122
   go_wp2_with fail
   rw [HW.out.1, HW.out.2]
   refine region_lg 17 (World.grownBy.refl _ _) (by kernel_rfl) (by kernel_rfl) (by kernel_rfl) (by kernel_rfl) ?_
   simp only [List.take_succ_cons, List.take_zero]
   repeat (first
    | (refine lx_end fun W0 GR => ?_)
    | (refine lx_no ?_ ?_ ?_; (· simp [Region.wanted, yielded]; done); (· kernel_rfl); simp only [Act.put, List.setIfInBounds_toArray, List.set_cons_succ, List.set_cons_zero])
    | (refine lx_val (v := ?_) ?_ ?_ ?_ ?_; rotate_left; (· kernel_rfl); (· exact ⟨by kernel_rfl, rfl⟩); (· intro W g; simp [go_sem, HF.out.k0 W g, HF.out.k1 W g, HF.out.x1 W g, q0]; rfl); simp only [Act.put, List.setIfInBounds_toArray, List.set_cons_succ, List.set_cons_zero])
    | (refine lx_callg HK.out ?_ ?_ ?_ ?_; (· kernel_rfl); (· exact ⟨by kernel_rfl, rfl⟩); (· intro W g; simp [go_sem]; done); simp only [Act.put, List.setIfInBounds_toArray, List.set_cons_succ, List.set_cons_zero])
    | (refine lx_callg HV.out ?_ ?_ ?_ ?_; (· kernel_rfl); (· exact ⟨by kernel_rfl, rfl⟩); (· intro W g; simp [go_sem]; done); simp only [Act.put, List.setIfInBounds_toArray, List.set_cons_succ, List.set_cons_zero]))
   simp only [List.drop_succ_cons, List.drop_zero]
   go_wp2_with (go_at_call 42; refine (HM.out _ _ _).mono ?_; rintro e w3 ⟨rfl, rfl⟩; simp only [cond_false])
   exact ⟨rfl, by rw [HR.out]; simp [ckE, Ck.ask, Ck.must, bind, Except.bind, HQ.out, q0, HZv.out], grown_trans HG.out GR⟩
  ·skip
   go_enter Tryz.func122, Tryz.ntmps122
   go_wp2_with fail
   rw [HW.out.1, HW.out.2]
   refine region_lg 17 (World.grownBy.refl _ _) (by kernel_rfl) (by kernel_rfl) (by kernel_rfl) (by kernel_rfl) ?_
   simp only [List.take_succ_cons, List.take_zero]
   repeat (first
    | (refine lx_end fun W0 GR => ?_)
    | (refine lx_no ?_ ?_ ?_; (· simp [Region.wanted, yielded]; done); (· kernel_rfl); simp only [Act.put, List.setIfInBounds_toArray, List.set_cons_succ, List.set_cons_zero])
    | (refine lx_val (v := ?_) ?_ ?_ ?_ ?_; rotate_left; (· kernel_rfl); (· exact ⟨by kernel_rfl, rfl⟩); (· intro W g; simp [go_sem, HF.out.k0 W g, HF.out.k1 W g, HF.out.x1 W g, q0]; rfl); simp only [Act.put, List.setIfInBounds_toArray, List.set_cons_succ, List.set_cons_zero])
    | (refine lx_callg HK.out ?_ ?_ ?_ ?_; (· kernel_rfl); (· exact ⟨by kernel_rfl, rfl⟩); (· intro W g; simp [go_sem]; done); simp only [Act.put, List.setIfInBounds_toArray, List.set_cons_succ, List.set_cons_zero])
    | (refine lx_callg HV.out ?_ ?_ ?_ ?_; (· kernel_rfl); (· exact ⟨by kernel_rfl, rfl⟩); (· intro W g; simp [go_sem]; done); simp only [Act.put, List.setIfInBounds_toArray, List.set_cons_succ, List.set_cons_zero]))
   simp only [List.drop_succ_cons, List.drop_zero]
   go_wp2_with (go_at_call 42; refine (HM.out _ _ _).mono ?_; rintro e w3 ⟨rfl, rfl⟩; simp only [cond_false])
   exact ⟨rfl, by rw [HR.out]; simp [ckE, Ck.ask, Ck.must, bind, Except.bind, HQ.out, q0, HZv.out], grown_trans HG.out GR⟩
 case true =>
  rcases Bool.eq_false_or_eq_true (v0 == 13) with q0 | q0
  ·skip
   rcases Bool.eq_false_or_eq_true (l.length == nf) with qn | qn
   ·skip
    cases ze
    case false =>
     have qn3 : l.length = nf := by simpa using qn
     have qn2 : ((l.length : Int) == nf) = true := by simp; omega
     have QN : Hid (l.length = nf) := qn3
     clear qn3 qn
     go_enter Tryz.func122, Tryz.ntmps122
     go_wp2_with fail
     rw [HW.out.1, HW.out.2]
     refine region_lg 17 (World.grownBy.refl _ _) (by kernel_rfl) (by kernel_rfl) (by kernel_rfl) (by kernel_rfl) ?_
     simp only [List.take_succ_cons, List.take_zero]
     repeat (first
      | (refine lx_end fun W0 GR => ?_)
      | (refine lx_no ?_ ?_ ?_; (· simp [Region.wanted, yielded]; done); (· kernel_rfl); simp only [Act.put, List.setIfInBounds_toArray, List.set_cons_succ, List.set_cons_zero])
      | (refine lx_val (v := ?_) ?_ ?_ ?_ ?_; rotate_left; (· kernel_rfl); (· exact ⟨by kernel_rfl, rfl⟩); (· intro W g; simp [go_sem, HF.out.k0 W g, HF.out.k1 W g, HF.out.x1 W g, q0]; rfl); simp only [Act.put, List.setIfInBounds_toArray, List.set_cons_succ, List.set_cons_zero])
      | (refine lx_callg HK.out ?_ ?_ ?_ ?_; (· kernel_rfl); (· exact ⟨by kernel_rfl, rfl⟩); (· intro W g; simp [go_sem]; done); simp only [Act.put, List.setIfInBounds_toArray, List.set_cons_succ, List.set_cons_zero])
      | (refine lx_callg HV.out ?_ ?_ ?_ ?_; (· kernel_rfl); (· exact ⟨by kernel_rfl, rfl⟩); (· intro W g; simp [go_sem]; done); simp only [Act.put, List.setIfInBounds_toArray, List.set_cons_succ, List.set_cons_zero]))
     simp only [List.drop_succ_cons, List.drop_zero]
     go_wp2_with (go_at_call 42; refine (HM.out _ _ _).mono ?_; rintro e w3 ⟨rfl, rfl⟩; simp only [cond_true])
     refine region_lg 10 GR (by kernel_rfl) (by kernel_rfl) (by kernel_rfl) (by kernel_rfl) ?_
     simp only [List.take_succ_cons, List.take_zero]
     repeat (first
      | (refine lx_end fun V0 GV => ?_)
      | (refine lx_no ?_ ?_ ?_; (· simp [Region.wanted]; done); (· kernel_rfl); simp only [Act.put, List.setIfInBounds_toArray, List.set_cons_succ, List.set_cons_zero])
      | (refine lx_val (v := ?_) ?_ ?_ ?_ ?_; rotate_left; (· kernel_rfl); (· exact ⟨by kernel_rfl, rfl⟩); (· intro W g; simp [go_sem, HK0.out W g, HF.out.x1 W g, HC3.out W g, ht']; rfl); simp only [Act.put, List.setIfInBounds_toArray, List.set_cons_succ, List.set_cons_zero]))
     simp only [List.drop_succ_cons, List.drop_zero]
     go_wp2_with (first | (go_at_call 42; refine (HM.out _ _ _).mono ?_; rintro e w3 ⟨rfl, rfl⟩; simp only [cond_true, cond_false]) | (go_at_call 168; refine (HE.out _ GV).mono ?_; rintro e w7 ⟨rfl, hg7⟩; have HG7 : Hid (W1.grownBy w7 none) := grown_trans GV hg7; have r0 := HF.out.x1 w7 HG7.out; clear hg7))
     exact ⟨rfl, by rw [HR.out]; simp [ckE, Ck.ask, Ck.must, bind, Except.bind, HQ.out, q0, HZv.out, HNf.out, QN.out, HZe.out], grown_trans HG.out HG7.out⟩
    case true =>
     have qn3 : l.length = nf := by simpa using qn
     have qn2 : ((l.length : Int) == nf) = true := by simp; omega
     have QN : Hid (l.length = nf) := qn3
     clear qn3 qn
     go_enter Tryz.func122, Tryz.ntmps122
     go_wp2_with fail
     rw [HW.out.1, HW.out.2]
     refine region_lg 17 (World.grownBy.refl _ _) (by kernel_rfl) (by kernel_rfl) (by kernel_rfl) (by kernel_rfl) ?_
     simp only [List.take_succ_cons, List.take_zero]
     repeat (first
      | (refine lx_end fun W0 GR => ?_)
      | (refine lx_no ?_ ?_ ?_; (· simp [Region.wanted, yielded]; done); (· kernel_rfl); simp only [Act.put, List.setIfInBounds_toArray, List.set_cons_succ, List.set_cons_zero])
      | (refine lx_val (v := ?_) ?_ ?_ ?_ ?_; rotate_left; (· kernel_rfl); (· exact ⟨by kernel_rfl, rfl⟩); (· intro W g; simp [go_sem, HF.out.k0 W g, HF.out.k1 W g, HF.out.x1 W g, q0]; rfl); simp only [Act.put, List.setIfInBounds_toArray, List.set_cons_succ, List.set_cons_zero])
      | (refine lx_callg HK.out ?_ ?_ ?_ ?_; (· kernel_rfl); (· exact ⟨by kernel_rfl, rfl⟩); (· intro W g; simp [go_sem]; done); simp only [Act.put, List.setIfInBounds_toArray, List.set_cons_succ, List.set_cons_zero])
      | (refine lx_callg HV.out ?_ ?_ ?_ ?_; (· kernel_rfl); (· exact ⟨by kernel_rfl, rfl⟩); (· intro W g; simp [go_sem]; done); simp only [Act.put, List.setIfInBounds_toArray, List.set_cons_succ, List.set_cons_zero]))
     simp only [List.drop_succ_cons, List.drop_zero]
     go_wp2_with (go_at_call 42; refine (HM.out _ _ _).mono ?_; rintro e w3 ⟨rfl, rfl⟩; simp only [cond_true])
     refine region_lg 10 GR (by kernel_rfl) (by kernel_rfl) (by kernel_rfl) (by kernel_rfl) ?_
     simp only [List.take_succ_cons, List.take_zero]
     repeat (first
      | (refine lx_end fun V0 GV => ?_)
      | (refine lx_no ?_ ?_ ?_; (· simp [Region.wanted]; done); (· kernel_rfl); simp only [Act.put, List.setIfInBounds_toArray, List.set_cons_succ, List.set_cons_zero])
      | (refine lx_val (v := ?_) ?_ ?_ ?_ ?_; rotate_left; (· kernel_rfl); (· exact ⟨by kernel_rfl, rfl⟩); (· intro W g; simp [go_sem, HK0.out W g, HF.out.x1 W g, HC3.out W g, ht']; rfl); simp only [Act.put, List.setIfInBounds_toArray, List.set_cons_succ, List.set_cons_zero]))
     simp only [List.drop_succ_cons, List.drop_zero]
     go_wp2_with (first | (go_at_call 42; refine (HM.out _ _ _).mono ?_; rintro e w3 ⟨rfl, rfl⟩; simp only [cond_true]) | (go_at_call 168; refine (HE.out _ GV).mono ?_; rintro e w7 ⟨rfl, hg7⟩; have HG7 : Hid (W1.grownBy w7 none) := grown_trans GV hg7; have r0 := HF.out.x1 w7 HG7.out; clear hg7))
     go_ret
     exact ⟨by rw [HR.out]; simp [ckE, Ck.ask, Ck.must, bind, Except.bind, HQ.out, q0, HZv.out, HNf.out, QN.out, HZe.out], grown_trans HG.out HG7.out⟩
   ·skip
    have qn3 : ¬ l.length = nf := by simpa using qn
    have qn2 : ((l.length : Int) == nf) = false := by simp; omega
    have QN : Hid (¬ l.length = nf) := qn3
    clear qn3 qn
    go_enter Tryz.func122, Tryz.ntmps122
    go_wp2_with fail
    rw [HW.out.1, HW.out.2]
    refine region_lg 17 (World.grownBy.refl _ _) (by kernel_rfl) (by kernel_rfl) (by kernel_rfl) (by kernel_rfl) ?_
    simp only [List.take_succ_cons, List.take_zero]
    repeat (first
     | (refine lx_end fun W0 GR => ?_)
     | (refine lx_no ?_ ?_ ?_; (· simp [Region.wanted, yielded]; done); (· kernel_rfl); simp only [Act.put, List.setIfInBounds_toArray, List.set_cons_succ, List.set_cons_zero])
     | (refine lx_val (v := ?_) ?_ ?_ ?_ ?_; rotate_left; (· kernel_rfl); (· exact ⟨by kernel_rfl, rfl⟩); (· intro W g; simp [go_sem, HF.out.k0 W g, HF.out.k1 W g, HF.out.x1 W g, q0]; rfl); simp only [Act.put, List.setIfInBounds_toArray, List.set_cons_succ, List.set_cons_zero])
     | (refine lx_callg HK.out ?_ ?_ ?_ ?_; (· kernel_rfl); (· exact ⟨by kernel_rfl, rfl⟩); (· intro W g; simp [go_sem]; done); simp only [Act.put, List.setIfInBounds_toArray, List.set_cons_succ, List.set_cons_zero])
     | (refine lx_callg HV.out ?_ ?_ ?_ ?_; (· kernel_rfl); (· exact ⟨by kernel_rfl, rfl⟩); (· intro W g; simp [go_sem]; done); simp only [Act.put, List.setIfInBounds_toArray, List.set_cons_succ, List.set_cons_zero]))
    simp only [List.drop_succ_cons, List.drop_zero]
    go_wp2_with (go_at_call 42; refine (HM.out _ _ _).mono ?_; rintro e w3 ⟨rfl, rfl⟩; simp only [cond_true])
    refine region_lg 10 GR (by kernel_rfl) (by kernel_rfl) (by kernel_rfl) (by kernel_rfl) ?_
    simp only [List.take_succ_cons, List.take_zero]
    repeat (first
     | (refine lx_end fun V0 GV => ?_)
     | (refine lx_no ?_ ?_ ?_; (· simp [Region.wanted]; done); (· kernel_rfl); simp only [Act.put, List.setIfInBounds_toArray, List.set_cons_succ, List.set_cons_zero])
     | (refine lx_val (v := ?_) ?_ ?_ ?_ ?_; rotate_left; (· kernel_rfl); (· exact ⟨by kernel_rfl, rfl⟩); (· intro W g; simp [go_sem, HK0.out W g, HF.out.x1 W g, HC3.out W g, ht']; rfl); simp only [Act.put, List.setIfInBounds_toArray, List.set_cons_succ, List.set_cons_zero]))
    simp only [List.drop_succ_cons, List.drop_zero]
    go_wp2_with (go_at_call 42; refine (HM.out _ _ _).mono ?_; rintro e w3 ⟨rfl, rfl⟩; simp only [cond_false])
    exact ⟨rfl, by rw [HR.out]; simp [ckE, Ck.ask, Ck.must, bind, Except.bind, HQ.out, q0, HZv.out, HNf.out, QN.out], grown_trans HG.out GV⟩
  ·skip
   go_enter Tryz.func122, Tryz.ntmps122
   go_wp2_with fail
   rw [HW.out.1, HW.out.2]
   refine region_lg 17 (World.grownBy.refl _ _) (by kernel_rfl) (by kernel_rfl) (by kernel_rfl) (by kernel_rfl) ?_
   simp only [List.take_succ_cons, List.take_zero]
   repeat (first
    | (refine lx_end fun W0 GR => ?_)
    | (refine lx_no ?_ ?_ ?_; (· simp [Region.wanted, yielded]; done); (· kernel_rfl); simp only [Act.put, List.setIfInBounds_toArray, List.set_cons_succ, List.set_cons_zero])
    | (refine lx_val (v := ?_) ?_ ?_ ?_ ?_; rotate_left; (· kernel_rfl); (· exact ⟨by kernel_rfl, rfl⟩); (· intro W g; simp [go_sem, HF.out.k0 W g, HF.out.k1 W g, HF.out.x1 W g, q0]; rfl); simp only [Act.put, List.setIfInBounds_toArray, List.set_cons_succ, List.set_cons_zero])
    | (refine lx_callg HK.out ?_ ?_ ?_ ?_; (· kernel_rfl); (· exact ⟨by kernel_rfl, rfl⟩); (· intro W g; simp [go_sem]; done); simp only [Act.put, List.setIfInBounds_toArray, List.set_cons_succ, List.set_cons_zero])
    | (refine lx_callg HV.out ?_ ?_ ?_ ?_; (· kernel_rfl); (· exact ⟨by kernel_rfl, rfl⟩); (· intro W g; simp [go_sem]; done); simp only [Act.put, List.setIfInBounds_toArray, List.set_cons_succ, List.set_cons_zero]))
   simp only [List.drop_succ_cons, List.drop_zero]
   go_wp2_with (go_at_call 42; refine (HM.out _ _ _).mono ?_; rintro e w3 ⟨rfl, rfl⟩; simp only [cond_false])
   exact ⟨rfl, by rw [HR.out]; simp [ckE, Ck.ask, Ck.must, bind, Except.bind, HQ.out, q0, HZv.out], grown_trans HG.out GR⟩
end Go.Proofs.YtpcgkggpmipiaaaGreat
