/- How much a program weighs. -/
import Derived.Test.YtpcgkggpmipiaaaGreatG2
import Derived.Test.YtpcgkggpmipiaaaGreatG3
namespace Go.Proofs.YtpcgkggpmipiaaaGreat
set_option maxRecDepth 100000
set_option maxHeartbeats 32000000
open Go.RowKit
set_option linter.unusedVariables false
namespace Pg
mutual
def Ex.w : Ex → Int
 | .mk _ _ _ s args => 1 + ((s.size : Int) / 16) + wEs args
def wEs : List Ex → Int
 | [] => 0
 | x :: l => x.w + wEs l
end
mutual
def St.w : St → Int
 | .mk _ _ args dst a b => 1 + (dst.length : Int) + wEs args + wSs a + wSs b
def wSs : List St → Int
 | [] => 0
 | x :: l => x.w + wSs l
end
theorem wEs_app (l m : List Ex) : wEs (l ++ m) = wEs l + wEs m := by
 induction l with
 | nil => simp [wEs]
 | cons x l ih => simp only [List.cons_append, wEs, ih]; omega
theorem wSs_app (l m : List St) : wSs (l ++ m) = wSs l + wSs m := by
 induction l with
 | nil => simp [wSs]
 | cons x l ih => simp only [List.cons_append, wSs, ih]; omega
theorem wEs_succ {l : List Ex} {k : Nat} (h : k < l.length) : wEs (l.take (k + 1)) = wEs (l.take k) + l[k].w := by
 rw [List.take_succ_eq_append_getElem h, wEs_app]
 simp [wEs]
theorem wSs_succ {l : List St} {k : Nat} (h : k < l.length) : wSs (l.take (k + 1)) = wSs (l.take k) + l[k].w := by
 rw [List.take_succ_eq_append_getElem h, wSs_app]
 simp [wSs]
theorem Ex.w_eq (x : Ex) : x.w = 1 + ((x.s.size : Int) / 16) + wEs x.args := by obtain ⟨_, _, _, _, _⟩ := x; simp only [Ex.w]; rfl
theorem St.w_eq (x : St) : x.w = 1 + (x.dst.length : Int) + wEs x.args + wSs x.a + wSs x.b := by obtain ⟨_, _, _, _, _, _⟩ := x; simp only [St.w]; rfl
end Pg
def Wt (most n r s : Int) : Prop := n ≤ r ∧ r ≤ 100000000000000 ∧ (r ≤ most → r = n + s)
def intV (p : Int → Prop) : Value → World → Prop := fun v _ => ∃ r, v = .int .i64 r ∧ p r
theorem stab_int (p : Int → Prop) : StabV (intV p) := fun _ _ _ h _ => h
theorem ExL.grow {B : Nat → Prop} {W W' : World} {a : Option Addr} {cap : Nat} {xs : List Pg.Ex} (h : ExL B W a cap xs) (hg : W.grownBy W' none) : ExL B W' a cap xs := ExL.ch h (l := []) (Ch.of hg) (by simp) (fun _ h => h)
theorem StL.grow {B : Nat → Prop} {W W' : World} {a : Option Addr} {cap : Nat} {xs : List Pg.St} (h : StL B W a cap xs) (hg : W.grownBy W' none) : StL B W' a cap xs := StL.ch h (l := []) (Ch.of hg) (by simp) (fun _ h => h)
theorem NumL.grow {B : Nat → Prop} {W W' : World} {a : Option Addr} {cap : Nat} {xs : List Int} (h : NumL B W a cap xs) (hg : W.grownBy W' none) : NumL B W' a cap xs := NumL.ch h (l := []) (Ch.of hg) (by simp) (fun _ h => h)
theorem TpL.grow {B : Nat → Prop} {W W' : World} {a : Option Addr} {cap : Nat} {xs : List Pg.Tp} (h : TpL B W a cap xs) (hg : W.grownBy W' none) : TpL B W' a cap xs := TpL.ch h (l := []) (Ch.of hg) (by simp) (fun _ h => h)
theorem FnL.grow {B : Nat → Prop} {W W' : World} {a : Option Addr} {cap : Nat} {xs : List Pg.Fn} (h : FnL B W a cap xs) (hg : W.grownBy W' none) : FnL B W' a cap xs := FnL.ch h (l := []) (Ch.of hg) (by simp) (fun _ h => h)
def WtE (most : Int) (l : List Pg.Ex) : Prop := ∀ (B : Nat → Prop) (W : World) (a : Option Addr) (c : Nat) (n : Int), ExL B W a c l → 0 ≤ n → n ≤ 100000000000000 →
 Calls Tryz.prog 51 #[.slice a l.length c, .int .i64 n, .int .i64 most] W fun e w' => ∃ r, e = .returned (.int .i64 r) ∧ Wt most n r (Pg.wEs l) ∧ W.grownBy w' none
theorem exprs_list {most : Int} (hm : 0 ≤ most ∧ most ≤ 1000000) (l : List Pg.Ex) (ih : ∀ x, x ∈ l → WtE most x.args) : WtE most l := by
 intro B w a c n h hn0 hn1
 have hle := h.le
 have hmx := h.max
 unfold maxLen at hmx
 have HL : Hid (ExL B w a c l) := h
 have HI : Hid (∀ x, x ∈ l → WtE most x.args) := ih
 clear h ih
 go_enter Tryz.func51, Tryz.ntmps51
 go_wp2_with fail
 go_loopw [1, 7] (fun nx ix wr => ∃ (k : Nat) (r : Int), ix = .int .i64 k ∧ k ≤ l.length ∧ nx = .int .i64 r ∧ 0 ≤ r ∧ Wt most n r (Pg.wEs (l.take k)) ∧ w.grownBy wr none) (fun _ ix _ => l.length - (intOf ix).toNat)
 case atStart => exact ⟨0, n, rfl, Nat.zero_le _, rfl, hn0, ⟨Int.le_refl _, hn1, fun _ => by simp [Pg.wEs]⟩, World.grownBy.refl _ _⟩
 case round =>
  obtain ⟨k, r, rfl, hk, rfl, hr0, hwt, hg⟩ := hrel
  have HWt : Hid (Wt most n r (Pg.wEs (l.take k))) := hwt
  have HG : Hid (w.grownBy wr none) := hg
  by_cases hkn : k < l.length
  case neg =>
   obtain rfl : k = l.length := by omega
   clear hwt hg
   go_wp2
   go_ret
   refine ⟨r, rfl, ?_, HG.out⟩
   have := HWt.out
   rwa [List.take_length] at this
  have hkn' : (k : Int) < l.length := by omega
  by_cases hrm : r ≤ most
  case neg =>
   have hrm' : ¬ r ≤ most := hrm
   have d1 : decide (r ≤ most) = false := by simpa using hrm
   obtain ⟨z1, z2, _⟩ := hwt
   clear hg
   go_wp2
   go_ret
   exact ⟨r, rfl, ⟨z1, z2, fun h => absurd h (by omega)⟩, HG.out⟩
  have d1 : decide (r ≤ most) = true := by simpa using hrm
  obtain ⟨b, o, rfl, hb, hx⟩ := (ExL.grow HL.out hg).at hkn
  obtain ⟨a4, k4, hc⟩ := hx.row
  have HC := fun W (g : wr.grownBy W none) => HI.out l[k] (List.getElem_mem hkn) B W a4 k4 (r + 1 + ((l[k].s.size : Int) / 16)) (ExL.grow hc.args g)
  have HX : Hid (l[k].w = 1 + ((l[k].s.size : Int) / 16) + Pg.wEs l[k].args) := Pg.Ex.w_eq _
  have HX2 := (HWt.out).2.2 hrm
  have hsz : l[k].s.size ≤ 140737488351232 := hc.sz
  have c3 := hc.c3
  have c4 := hc.c4
  have hwn := hwt.1
  clear hx hc hwt hg
  generalize hxk : l[k] = x at *
  have hsz2 : ((x.s.size : Int) / 16) ≤ 8796093022000 := by omega
  have HC : Hid (∀ W, wr.grownBy W none → Calls Tryz.prog 51 #[.slice a4 x.args.length k4, .int .i64 (r + 1 + ((x.s.size : Int) / 16)), .int .i64 most] W fun e w' => ∃ q, e = .returned (.int .i64 q) ∧ Wt most (r + 1 + ((x.s.size : Int) / 16)) q (Pg.wEs x.args) ∧ W.grownBy w' none) := fun W g => HC W g (by omega) (by omega)
  have hw1 : IntKind.i64.wrap (r + 1) = r + 1 := by rw [IntKind.wrap_i64]; omega
  have hw2 : IntKind.i64.wrap (r + 1 + ((x.s.size : Int) / 16)) = r + 1 + ((x.s.size : Int) / 16) := by rw [IntKind.wrap_i64]; omega
  have hq : IntKind.i64.wrap ((x.s.size : Int) / 16) = (x.s.size : Int) / 16 := by rw [IntKind.wrap_i64]; omega
  go_wp2_with fail
  refine region_src 17 (psiL [eqV (.slice (some ⟨b, o, none⟩) l.length c), eqV (.int .i64 (k : Int)), eqV (.pointer (some ⟨b, o + k * 5, none⟩)), eqV (.pointer (some ⟨b, o + k * 5 + 4, none⟩)), eqV (.slice a4 x.args.length k4), eqV (.int .i64 r), eqV (.int .i64 (r + 1)), eqV (.slice (some ⟨b, o, none⟩) l.length c), eqV (.int .i64 (k : Int)), eqV (.pointer (some ⟨b, o + k * 5, none⟩)), eqV (.pointer (some ⟨b, o + k * 5 + 3, none⟩)), eqV (.string x.s), eqV (.int .i64 (x.s.size : Int)), eqV (.int .i64 ((x.s.size : Int) / 16)), eqV (.int .i64 (r + 1 + ((x.s.size : Int) / 16))), eqV (.int .i64 most), intV (fun q => Wt most (r + 1 + ((x.s.size : Int) / 16)) q (Pg.wEs x.args))]) (by kernel_rfl) (by kernel_rfl) (by kernel_rfl) (by kernel_rfl) (psiL_hst (by repeat (first | exact stab_nil | refine stab_cons ?_ ?_ | exact stab_eq _ | exact stab_int _))) ?_ ?_
  ·simp only [List.take_succ_cons, List.take_zero]
   refine ⟨?_, ?_, ?_, ?_, ?_, ?_, ?_, ?_, ?_, ?_, ?_, ?_, ?_, ?_, ?_, ?_, ?_, trivial⟩
   ·intro VV W0 AA g hV hs hz
    have e00 := hz 0 (.slice (some ⟨b, o, none⟩) l.length c) (by kernel_rfl) rfl
    refine ov (v := .slice (some ⟨b, o, none⟩) l.length c) ?_ rfl
    simp [go_sem, e00]
   ·intro VV W0 AA g hV hs hz
    have e07 := hz 7 (.int .i64 (k : Int)) (by kernel_rfl) rfl
    refine ov (v := .int .i64 (k : Int)) ?_ rfl
    simp [go_sem, e07]
   ·intro VV W0 AA g hV hs hz
    have q0 := psiL_eq (hV 0 (by kernel_rfl)) rfl
    have e0 := hs 19 0 (by kernel_rfl) (by kernel_rfl)
    have q1 := psiL_eq (hV 1 (by kernel_rfl)) rfl
    have e1 := hs 20 1 (by kernel_rfl) (by kernel_rfl)
    refine ov (v := .pointer (some ⟨b, o + k * 5, none⟩)) ?_ rfl
    simp [go_sem, q0, e0, q1, e1, hkn']
   ·intro VV W0 AA g hV hs hz
    have q2 := psiL_eq (hV 2 (by kernel_rfl)) rfl
    have e2 := hs 21 2 (by kernel_rfl) (by kernel_rfl)
    refine ov (v := .pointer (some ⟨b, o + k * 5 + 4, none⟩)) ?_ rfl
    simp [go_sem, q2, e2]
   ·intro VV W0 AA g hV hs hz
    have gD : wr.grownBy W0 none := gdd g
    have q3 := psiL_eq (hV 3 (by kernel_rfl)) rfl
    have e3 := hs 22 3 (by kernel_rfl) (by kernel_rfl)
    have x0 := gD.cell c4 (by simp)
    refine ov (v := .slice a4 x.args.length k4) ?_ rfl
    simp [go_sem, q3, e3, x0]
   ·intro VV W0 AA g hV hs hz
    have e01 := hz 1 (.int .i64 r) (by kernel_rfl) rfl
    refine ov (v := .int .i64 r) ?_ rfl
    simp [go_sem, e01]
   ·intro VV W0 AA g hV hs hz
    have q5 := psiL_eq (hV 5 (by kernel_rfl)) rfl
    have e5 := hs 24 5 (by kernel_rfl) (by kernel_rfl)
    refine ov (v := .int .i64 (r + 1)) ?_ rfl
    simp [go_sem, q5, e5, hw1]
   ·intro VV W0 AA g hV hs hz
    have e00 := hz 0 (.slice (some ⟨b, o, none⟩) l.length c) (by kernel_rfl) rfl
    refine ov (v := .slice (some ⟨b, o, none⟩) l.length c) ?_ rfl
    simp [go_sem, e00]
   ·intro VV W0 AA g hV hs hz
    have e07 := hz 7 (.int .i64 (k : Int)) (by kernel_rfl) rfl
    refine ov (v := .int .i64 (k : Int)) ?_ rfl
    simp [go_sem, e07]
   ·intro VV W0 AA g hV hs hz
    have q7 := psiL_eq (hV 7 (by kernel_rfl)) rfl
    have e7 := hs 26 7 (by kernel_rfl) (by kernel_rfl)
    have q8 := psiL_eq (hV 8 (by kernel_rfl)) rfl
    have e8 := hs 27 8 (by kernel_rfl) (by kernel_rfl)
    refine ov (v := .pointer (some ⟨b, o + k * 5, none⟩)) ?_ rfl
    simp [go_sem, q7, e7, q8, e8, hkn']
   ·intro VV W0 AA g hV hs hz
    have q9 := psiL_eq (hV 9 (by kernel_rfl)) rfl
    have e9 := hs 28 9 (by kernel_rfl) (by kernel_rfl)
    refine ov (v := .pointer (some ⟨b, o + k * 5 + 3, none⟩)) ?_ rfl
    simp [go_sem, q9, e9]
   ·intro VV W0 AA g hV hs hz
    have gD : wr.grownBy W0 none := gdd g
    have q10 := psiL_eq (hV 10 (by kernel_rfl)) rfl
    have e10 := hs 29 10 (by kernel_rfl) (by kernel_rfl)
    have x0 := gD.cell c3 (by simp)
    refine ov (v := .string x.s) ?_ rfl
    simp [go_sem, q10, e10, x0]
   ·intro VV W0 AA g hV hs hz
    have q11 := psiL_eq (hV 11 (by kernel_rfl)) rfl
    have e11 := hs 30 11 (by kernel_rfl) (by kernel_rfl)
    refine ov (v := .int .i64 (x.s.size : Int)) ?_ rfl
    simp [go_sem, q11, e11]
   ·intro VV W0 AA g hV hs hz
    have q12 := psiL_eq (hV 12 (by kernel_rfl)) rfl
    have e12 := hs 31 12 (by kernel_rfl) (by kernel_rfl)
    refine ov (v := .int .i64 ((x.s.size : Int) / 16)) ?_ rfl
    simp [go_sem, q12, e12, hq]
   ·intro VV W0 AA g hV hs hz
    have q6 := psiL_eq (hV 6 (by kernel_rfl)) rfl
    have e6 := hs 25 6 (by kernel_rfl) (by kernel_rfl)
    have q13 := psiL_eq (hV 13 (by kernel_rfl)) rfl
    have e13 := hs 32 13 (by kernel_rfl) (by kernel_rfl)
    refine ov (v := .int .i64 (r + 1 + ((x.s.size : Int) / 16))) ?_ rfl
    simp [go_sem, q6, e6, q13, e13, hw2]
   ·intro VV W0 AA g hV hs hz
    have e02 := hz 2 (.int .i64 most) (by kernel_rfl) rfl
    refine ov (v := .int .i64 most) ?_ rfl
    simp [go_sem, e02]
   ·intro VV W0 AA g hV hs hz
    have gD : wr.grownBy W0 none := gdd g
    have q4 := psiL_eq (hV 4 (by kernel_rfl)) rfl
    have e4 := hs 23 4 (by kernel_rfl) (by kernel_rfl)
    have q14 := psiL_eq (hV 14 (by kernel_rfl)) rfl
    have e14 := hs 33 14 (by kernel_rfl) (by kernel_rfl)
    have q15 := psiL_eq (hV 15 (by kernel_rfl)) rfl
    have e15 := hs 34 15 (by kernel_rfl) (by kernel_rfl)
    refine outO_call (f := 51) ?_ ((HC.out W0 gD).mono fun e w2 ⟨q, he, hq, hg⟩ => ⟨_, he, hg, q, rfl, hq⟩)
    simp [go_sem, q4, e4, q14, e14, q15, e15]
  ·intro VV W0 g hV
   have gD : wr.grownBy W0 none := gdd g
   have h0 := psiL_eq (hV 0 (by decide)) rfl
   have h1 := psiL_eq (hV 1 (by decide)) rfl
   have h2 := psiL_eq (hV 2 (by decide)) rfl
   have h3 := psiL_eq (hV 3 (by decide)) rfl
   have h4 := psiL_eq (hV 4 (by decide)) rfl
   have h5 := psiL_eq (hV 5 (by decide)) rfl
   have h6 := psiL_eq (hV 6 (by decide)) rfl
   have h7 := psiL_eq (hV 7 (by decide)) rfl
   have h8 := psiL_eq (hV 8 (by decide)) rfl
   have h9 := psiL_eq (hV 9 (by decide)) rfl
   have h10 := psiL_eq (hV 10 (by decide)) rfl
   have h11 := psiL_eq (hV 11 (by decide)) rfl
   have h12 := psiL_eq (hV 12 (by decide)) rfl
   have h13 := psiL_eq (hV 13 (by decide)) rfl
   have h14 := psiL_eq (hV 14 (by decide)) rfl
   have h15 := psiL_eq (hV 15 (by decide)) rfl
   obtain ⟨q, h16, hq9⟩ := (show intV (fun q => Wt most (r + 1 + ((x.s.size : Int) / 16)) q (Pg.wEs x.args)) (VV 16) W0 from hV 16 (by decide))
   simp [frV, dstOf, Act.put, h0, h1, h2, h3, h4, h5, h6, h7, h8, h9, h10, h11, h12, h13, h14, h15, h16]
   clear h0 h1 h2 h3 h4 h5 h6 h7 h8 h9 h10 h11 h12 h13 h14 h15 h16 hV g
   have GR : Hid (wr.grownBy W0 none) := gD
   clear gD
   have HQ9 : Hid (Wt most (r + 1 + ((x.s.size : Int) / 16)) q (Pg.wEs x.args)) := hq9
   clear hq9
   go_wp2_with fail
   go_roundw
   case rel =>
    obtain ⟨z1, z2, z3⟩ := HQ9.out
    refine ⟨k + 1, q, by go_num, by omega, rfl, by omega, ⟨by omega, z2, fun h => ?_⟩, grown_trans HG.out GR.out⟩
    rw [Pg.wEs_succ hkn, hxk, z3 h, HX.out]
    omega
   case measure => simp [intOf]; omega
theorem exprs_any {most : Int} (hm : 0 ≤ most ∧ most ≤ 1000000) (l : List Pg.Ex) : WtE most l :=
 exprs_list hm l fun x _ => Pg.Ex.ind (P := fun x => WtE most x.args) (fun _ _ _ _ args ih => exprs_list hm args ih) x
theorem Wt.trans {most n q1 q2 s1 s2 : Int} (h1 : Wt most n q1 s1) (h2 : Wt most q1 q2 s2) : Wt most n q2 (s1 + s2) := by
 obtain ⟨a1, a2, a3⟩ := h1
 obtain ⟨b1, b2, b3⟩ := h2
 exact ⟨by omega, b2, fun h => by have := a3 (by omega); have := b3 h; omega⟩
def WtS (most : Int) (l : List Pg.St) : Prop := ∀ (B : Nat → Prop) (W : World) (a : Option Addr) (c : Nat) (n : Int), StL B W a c l → 0 ≤ n → n ≤ 100000000000000 →
 Calls Tryz.prog 24 #[.slice a l.length c, .int .i64 n, .int .i64 most] W fun e w' => ∃ r, e = .returned (.int .i64 r) ∧ Wt most n r (Pg.wSs l) ∧ W.grownBy w' none
theorem stmts_list {most : Int} (hm : 0 ≤ most ∧ most ≤ 1000000) (l : List Pg.St) (ih : ∀ x, x ∈ l → WtS most x.a ∧ WtS most x.b) : WtS most l := by
 intro B w a c n h hn0 hn1
 have hle := h.le
 have hmx := h.max
 unfold maxLen at hmx
 have HL : Hid (StL B w a c l) := h
 have HI : Hid (∀ x, x ∈ l → WtS most x.a ∧ WtS most x.b) := ih
 clear h ih
 go_enter Tryz.func24, Tryz.ntmps24
 go_wp2_with fail
 go_loopw [1, 7] (fun nx ix wr => ∃ (k : Nat) (r : Int), ix = .int .i64 k ∧ k ≤ l.length ∧ nx = .int .i64 r ∧ 0 ≤ r ∧ Wt most n r (Pg.wSs (l.take k)) ∧ w.grownBy wr none) (fun _ ix _ => l.length - (intOf ix).toNat)
 case atStart => exact ⟨0, n, rfl, Nat.zero_le _, rfl, hn0, ⟨Int.le_refl _, hn1, fun _ => by simp [Pg.wSs]⟩, World.grownBy.refl _ _⟩
 case round =>
  obtain ⟨k, r, rfl, hk, rfl, hr0, hwt, hg⟩ := hrel
  have HWt : Hid (Wt most n r (Pg.wSs (l.take k))) := hwt
  have HG : Hid (w.grownBy wr none) := hg
  by_cases hkn : k < l.length
  case neg =>
   obtain rfl : k = l.length := by omega
   clear hwt hg
   go_wp2
   go_ret
   refine ⟨r, rfl, ?_, HG.out⟩
   have := HWt.out
   rwa [List.take_length] at this
  have hkn' : (k : Int) < l.length := by omega
  by_cases hrm : r ≤ most
  case neg =>
   have hrm' : ¬ r ≤ most := hrm
   have d1 : decide (r ≤ most) = false := by simpa using hrm
   obtain ⟨z1, z2, _⟩ := hwt
   clear hg
   go_wp2
   go_ret
   exact ⟨r, rfl, ⟨z1, z2, fun h => absurd h (by omega)⟩, HG.out⟩
  have d1 : decide (r ≤ most) = true := by simpa using hrm
  obtain ⟨b, o, rfl, hb, hx⟩ := (StL.grow HL.out hg).at hkn
  obtain ⟨a1, a2, a3, a4, k1, k2, k3, k4, hc⟩ := hx.row
  have HX : Hid (l[k].w = 1 + (l[k].dst.length : Int) + Pg.wEs l[k].args + Pg.wSs l[k].a + Pg.wSs l[k].b) := Pg.St.w_eq _
  have HX2 := (HWt.out).2.2 hrm
  have hdl : l[k].dst.length * 8 ≤ 140737488351232 := hc.dst.fits
  have HC1 := fun W (g : wr.grownBy W none) => exprs_any hm l[k].args B W a1 k1 (r + 1 + (l[k].dst.length : Int)) (ExL.grow hc.args g)
  have HC2 := fun W (g : wr.grownBy W none) n => (HI.out l[k] (List.getElem_mem hkn)).1 B W a3 k3 n (StL.grow hc.a g)
  have HC3 := fun W (g : wr.grownBy W none) n => (HI.out l[k] (List.getElem_mem hkn)).2 B W a4 k4 n (StL.grow hc.b g)
  have c2 := hc.c2
  have c3 := hc.c3
  have c4 := hc.c4
  have c5 := hc.c5
  have hwn := hwt.1
  clear hx hc hwt hg
  generalize hxk : l[k] = x at *
  have HC1 : Hid (∀ W, wr.grownBy W none → Calls Tryz.prog 51 #[.slice a1 x.args.length k1, .int .i64 (r + 1 + (x.dst.length : Int)), .int .i64 most] W fun e w' => ∃ q, e = .returned (.int .i64 q) ∧ Wt most (r + 1 + (x.dst.length : Int)) q (Pg.wEs x.args) ∧ W.grownBy w' none) := fun W g => HC1 W g (by omega) (by omega)
  have HC2 : Hid (∀ W, wr.grownBy W none → ∀ n : Int, 0 ≤ n → n ≤ 100000000000000 → Calls Tryz.prog 24 #[.slice a3 x.a.length k3, .int .i64 n, .int .i64 most] W fun e w' => ∃ q, e = .returned (.int .i64 q) ∧ Wt most n q (Pg.wSs x.a) ∧ W.grownBy w' none) := HC2
  have HC3 : Hid (∀ W, wr.grownBy W none → ∀ n : Int, 0 ≤ n → n ≤ 100000000000000 → Calls Tryz.prog 24 #[.slice a4 x.b.length k4, .int .i64 n, .int .i64 most] W fun e w' => ∃ q, e = .returned (.int .i64 q) ∧ Wt most n q (Pg.wSs x.b) ∧ W.grownBy w' none) := HC3
  have hw1 : IntKind.i64.wrap (r + 1) = r + 1 := by rw [IntKind.wrap_i64]; omega
  have hw2 : IntKind.i64.wrap (r + 1 + (x.dst.length : Int)) = r + 1 + (x.dst.length : Int) := by rw [IntKind.wrap_i64]; omega
  go_wp2_with fail
  refine region_src 30 (psiL [eqV (.slice (some ⟨b, o, none⟩) l.length c), eqV (.int .i64 (k : Int)), eqV (.pointer (some ⟨b, o + k * 6, none⟩)), eqV (.pointer (some ⟨b, o + k * 6 + 5, none⟩)), eqV (.slice a4 x.b.length k4), eqV (.slice (some ⟨b, o, none⟩) l.length c), eqV (.int .i64 (k : Int)), eqV (.pointer (some ⟨b, o + k * 6, none⟩)), eqV (.pointer (some ⟨b, o + k * 6 + 4, none⟩)), eqV (.slice a3 x.a.length k3), eqV (.slice (some ⟨b, o, none⟩) l.length c), eqV (.int .i64 (k : Int)), eqV (.pointer (some ⟨b, o + k * 6, none⟩)), eqV (.pointer (some ⟨b, o + k * 6 + 2, none⟩)), eqV (.slice a1 x.args.length k1), eqV (.int .i64 r), eqV (.int .i64 (r + 1)), eqV (.slice (some ⟨b, o, none⟩) l.length c), eqV (.int .i64 (k : Int)), eqV (.pointer (some ⟨b, o + k * 6, none⟩)), eqV (.pointer (some ⟨b, o + k * 6 + 3, none⟩)), eqV (.slice a2 x.dst.length k2), eqV (.int .i64 (x.dst.length : Int)), eqV (.int .i64 (r + 1 + (x.dst.length : Int))), eqV (.int .i64 most), intV (fun q => Wt most (r + 1 + (x.dst.length : Int)) q (Pg.wEs x.args)), eqV (.int .i64 most), intV (fun q => Wt most (r + 1 + (x.dst.length : Int)) q (Pg.wEs x.args + Pg.wSs x.a)), eqV (.int .i64 most), intV (fun q => Wt most (r + 1 + (x.dst.length : Int)) q (Pg.wEs x.args + Pg.wSs x.a + Pg.wSs x.b))]) (by kernel_rfl) (by kernel_rfl) (by kernel_rfl) (by kernel_rfl) (psiL_hst (by repeat (first | exact stab_nil | refine stab_cons ?_ ?_ | exact stab_eq _ | exact stab_int _ | exact stab_int _ | exact stab_int _))) ?_ ?_
  ·simp only [List.take_succ_cons, List.take_zero]
   refine ⟨?_, ?_, ?_, ?_, ?_, ?_, ?_, ?_, ?_, ?_, ?_, ?_, ?_, ?_, ?_, ?_, ?_, ?_, ?_, ?_, ?_, ?_, ?_, ?_, ?_, ?_, ?_, ?_, ?_, ?_, trivial⟩
   ·intro VV W0 AA g hV hs hz
    have e00 := hz 0 (.slice (some ⟨b, o, none⟩) l.length c) (by kernel_rfl) rfl
    refine ov (v := .slice (some ⟨b, o, none⟩) l.length c) ?_ rfl
    simp [go_sem, e00]
   ·intro VV W0 AA g hV hs hz
    have e07 := hz 7 (.int .i64 (k : Int)) (by kernel_rfl) rfl
    refine ov (v := .int .i64 (k : Int)) ?_ rfl
    simp [go_sem, e07]
   ·intro VV W0 AA g hV hs hz
    have q0 := psiL_eq (hV 0 (by kernel_rfl)) rfl
    have e0 := hs 19 0 (by kernel_rfl) (by kernel_rfl)
    have q1 := psiL_eq (hV 1 (by kernel_rfl)) rfl
    have e1 := hs 20 1 (by kernel_rfl) (by kernel_rfl)
    refine ov (v := .pointer (some ⟨b, o + k * 6, none⟩)) ?_ rfl
    simp [go_sem, q0, e0, q1, e1, hkn']
   ·intro VV W0 AA g hV hs hz
    have q2 := psiL_eq (hV 2 (by kernel_rfl)) rfl
    have e2 := hs 21 2 (by kernel_rfl) (by kernel_rfl)
    refine ov (v := .pointer (some ⟨b, o + k * 6 + 5, none⟩)) ?_ rfl
    simp [go_sem, q2, e2]
   ·intro VV W0 AA g hV hs hz
    have gD : wr.grownBy W0 none := gdd g
    have q3 := psiL_eq (hV 3 (by kernel_rfl)) rfl
    have e3 := hs 22 3 (by kernel_rfl) (by kernel_rfl)
    have x0 := gD.cell c5 (by simp)
    refine ov (v := .slice a4 x.b.length k4) ?_ rfl
    simp [go_sem, q3, e3, x0]
   ·intro VV W0 AA g hV hs hz
    have e00 := hz 0 (.slice (some ⟨b, o, none⟩) l.length c) (by kernel_rfl) rfl
    refine ov (v := .slice (some ⟨b, o, none⟩) l.length c) ?_ rfl
    simp [go_sem, e00]
   ·intro VV W0 AA g hV hs hz
    have e07 := hz 7 (.int .i64 (k : Int)) (by kernel_rfl) rfl
    refine ov (v := .int .i64 (k : Int)) ?_ rfl
    simp [go_sem, e07]
   ·intro VV W0 AA g hV hs hz
    have q5 := psiL_eq (hV 5 (by kernel_rfl)) rfl
    have e5 := hs 24 5 (by kernel_rfl) (by kernel_rfl)
    have q6 := psiL_eq (hV 6 (by kernel_rfl)) rfl
    have e6 := hs 25 6 (by kernel_rfl) (by kernel_rfl)
    refine ov (v := .pointer (some ⟨b, o + k * 6, none⟩)) ?_ rfl
    simp [go_sem, q5, e5, q6, e6, hkn']
   ·intro VV W0 AA g hV hs hz
    have q7 := psiL_eq (hV 7 (by kernel_rfl)) rfl
    have e7 := hs 26 7 (by kernel_rfl) (by kernel_rfl)
    refine ov (v := .pointer (some ⟨b, o + k * 6 + 4, none⟩)) ?_ rfl
    simp [go_sem, q7, e7]
   ·intro VV W0 AA g hV hs hz
    have gD : wr.grownBy W0 none := gdd g
    have q8 := psiL_eq (hV 8 (by kernel_rfl)) rfl
    have e8 := hs 27 8 (by kernel_rfl) (by kernel_rfl)
    have x0 := gD.cell c4 (by simp)
    refine ov (v := .slice a3 x.a.length k3) ?_ rfl
    simp [go_sem, q8, e8, x0]
   ·intro VV W0 AA g hV hs hz
    have e00 := hz 0 (.slice (some ⟨b, o, none⟩) l.length c) (by kernel_rfl) rfl
    refine ov (v := .slice (some ⟨b, o, none⟩) l.length c) ?_ rfl
    simp [go_sem, e00]
   ·intro VV W0 AA g hV hs hz
    have e07 := hz 7 (.int .i64 (k : Int)) (by kernel_rfl) rfl
    refine ov (v := .int .i64 (k : Int)) ?_ rfl
    simp [go_sem, e07]
   ·intro VV W0 AA g hV hs hz
    have q10 := psiL_eq (hV 10 (by kernel_rfl)) rfl
    have e10 := hs 29 10 (by kernel_rfl) (by kernel_rfl)
    have q11 := psiL_eq (hV 11 (by kernel_rfl)) rfl
    have e11 := hs 30 11 (by kernel_rfl) (by kernel_rfl)
    refine ov (v := .pointer (some ⟨b, o + k * 6, none⟩)) ?_ rfl
    simp [go_sem, q10, e10, q11, e11, hkn']
   ·intro VV W0 AA g hV hs hz
    have q12 := psiL_eq (hV 12 (by kernel_rfl)) rfl
    have e12 := hs 31 12 (by kernel_rfl) (by kernel_rfl)
    refine ov (v := .pointer (some ⟨b, o + k * 6 + 2, none⟩)) ?_ rfl
    simp [go_sem, q12, e12]
   ·intro VV W0 AA g hV hs hz
    have gD : wr.grownBy W0 none := gdd g
    have q13 := psiL_eq (hV 13 (by kernel_rfl)) rfl
    have e13 := hs 32 13 (by kernel_rfl) (by kernel_rfl)
    have x0 := gD.cell c2 (by simp)
    refine ov (v := .slice a1 x.args.length k1) ?_ rfl
    simp [go_sem, q13, e13, x0]
   ·intro VV W0 AA g hV hs hz
    have e01 := hz 1 (.int .i64 r) (by kernel_rfl) rfl
    refine ov (v := .int .i64 r) ?_ rfl
    simp [go_sem, e01]
   ·intro VV W0 AA g hV hs hz
    have q15 := psiL_eq (hV 15 (by kernel_rfl)) rfl
    have e15 := hs 34 15 (by kernel_rfl) (by kernel_rfl)
    refine ov (v := .int .i64 (r + 1)) ?_ rfl
    simp [go_sem, q15, e15, hw1]
   ·intro VV W0 AA g hV hs hz
    have e00 := hz 0 (.slice (some ⟨b, o, none⟩) l.length c) (by kernel_rfl) rfl
    refine ov (v := .slice (some ⟨b, o, none⟩) l.length c) ?_ rfl
    simp [go_sem, e00]
   ·intro VV W0 AA g hV hs hz
    have e07 := hz 7 (.int .i64 (k : Int)) (by kernel_rfl) rfl
    refine ov (v := .int .i64 (k : Int)) ?_ rfl
    simp [go_sem, e07]
   ·intro VV W0 AA g hV hs hz
    have q17 := psiL_eq (hV 17 (by kernel_rfl)) rfl
    have e17 := hs 36 17 (by kernel_rfl) (by kernel_rfl)
    have q18 := psiL_eq (hV 18 (by kernel_rfl)) rfl
    have e18 := hs 37 18 (by kernel_rfl) (by kernel_rfl)
    refine ov (v := .pointer (some ⟨b, o + k * 6, none⟩)) ?_ rfl
    simp [go_sem, q17, e17, q18, e18, hkn']
   ·intro VV W0 AA g hV hs hz
    have q19 := psiL_eq (hV 19 (by kernel_rfl)) rfl
    have e19 := hs 38 19 (by kernel_rfl) (by kernel_rfl)
    refine ov (v := .pointer (some ⟨b, o + k * 6 + 3, none⟩)) ?_ rfl
    simp [go_sem, q19, e19]
   ·intro VV W0 AA g hV hs hz
    have gD : wr.grownBy W0 none := gdd g
    have q20 := psiL_eq (hV 20 (by kernel_rfl)) rfl
    have e20 := hs 39 20 (by kernel_rfl) (by kernel_rfl)
    have x0 := gD.cell c3 (by simp)
    refine ov (v := .slice a2 x.dst.length k2) ?_ rfl
    simp [go_sem, q20, e20, x0]
   ·intro VV W0 AA g hV hs hz
    have q21 := psiL_eq (hV 21 (by kernel_rfl)) rfl
    have e21 := hs 40 21 (by kernel_rfl) (by kernel_rfl)
    refine ov (v := .int .i64 (x.dst.length : Int)) ?_ rfl
    simp [go_sem, q21, e21]
   ·intro VV W0 AA g hV hs hz
    have q16 := psiL_eq (hV 16 (by kernel_rfl)) rfl
    have e16 := hs 35 16 (by kernel_rfl) (by kernel_rfl)
    have q22 := psiL_eq (hV 22 (by kernel_rfl)) rfl
    have e22 := hs 41 22 (by kernel_rfl) (by kernel_rfl)
    refine ov (v := .int .i64 (r + 1 + (x.dst.length : Int))) ?_ rfl
    simp [go_sem, q16, e16, q22, e22, hw2]
   ·intro VV W0 AA g hV hs hz
    have e02 := hz 2 (.int .i64 most) (by kernel_rfl) rfl
    refine ov (v := .int .i64 most) ?_ rfl
    simp [go_sem, e02]
   ·intro VV W0 AA g hV hs hz
    have gD : wr.grownBy W0 none := gdd g
    have q14 := psiL_eq (hV 14 (by kernel_rfl)) rfl
    have e14 := hs 33 14 (by kernel_rfl) (by kernel_rfl)
    have q23 := psiL_eq (hV 23 (by kernel_rfl)) rfl
    have e23 := hs 42 23 (by kernel_rfl) (by kernel_rfl)
    have q24 := psiL_eq (hV 24 (by kernel_rfl)) rfl
    have e24 := hs 43 24 (by kernel_rfl) (by kernel_rfl)
    refine outO_call (f := 51) ?_ ((HC1.out W0 gD).mono fun e w2 ⟨q, he, hq, hg⟩ => ⟨_, he, hg, q, rfl, hq⟩)
    simp [go_sem, q14, e14, q23, e23, q24, e24]
   ·intro VV W0 AA g hV hs hz
    have e02 := hz 2 (.int .i64 most) (by kernel_rfl) rfl
    refine ov (v := .int .i64 most) ?_ rfl
    simp [go_sem, e02]
   ·intro VV W0 AA g hV hs hz
    have gD : wr.grownBy W0 none := gdd g
    have q9 := psiL_eq (hV 9 (by kernel_rfl)) rfl
    have e9 := hs 28 9 (by kernel_rfl) (by kernel_rfl)
    obtain ⟨z25, q25, p25⟩ := (show intV (fun q => Wt most (r + 1 + (x.dst.length : Int)) q (Pg.wEs x.args)) (VV 25) W0 from hV 25 (by kernel_rfl))
    have e25 := hs 44 25 (by kernel_rfl) (by kernel_rfl)
    have q26 := psiL_eq (hV 26 (by kernel_rfl)) rfl
    have e26 := hs 45 26 (by kernel_rfl) (by kernel_rfl)
    refine outO_call (f := 24) ?_ ((HC2.out W0 gD z25 (by have := p25.1; omega) p25.2.1).mono fun e w2 ⟨q, he, hq, hg⟩ => ⟨_, he, hg, q, rfl, p25.trans hq⟩)
    simp [go_sem, q9, e9, q25, e25, q26, e26]
   ·intro VV W0 AA g hV hs hz
    have e02 := hz 2 (.int .i64 most) (by kernel_rfl) rfl
    refine ov (v := .int .i64 most) ?_ rfl
    simp [go_sem, e02]
   ·intro VV W0 AA g hV hs hz
    have gD : wr.grownBy W0 none := gdd g
    have q4 := psiL_eq (hV 4 (by kernel_rfl)) rfl
    have e4 := hs 23 4 (by kernel_rfl) (by kernel_rfl)
    obtain ⟨z27, q27, p27⟩ := (show intV (fun q => Wt most (r + 1 + (x.dst.length : Int)) q (Pg.wEs x.args + Pg.wSs x.a)) (VV 27) W0 from hV 27 (by kernel_rfl))
    have e27 := hs 46 27 (by kernel_rfl) (by kernel_rfl)
    have q28 := psiL_eq (hV 28 (by kernel_rfl)) rfl
    have e28 := hs 47 28 (by kernel_rfl) (by kernel_rfl)
    refine outO_call (f := 24) ?_ ((HC3.out W0 gD z27 (by have := p27.1; omega) p27.2.1).mono fun e w2 ⟨q, he, hq, hg⟩ => ⟨_, he, hg, q, rfl, p27.trans hq⟩)
    simp [go_sem, q4, e4, q27, e27, q28, e28]
  ·intro VV W0 g hV
   have gD : wr.grownBy W0 none := gdd g
   have h0 := psiL_eq (hV 0 (by decide)) rfl
   have h1 := psiL_eq (hV 1 (by decide)) rfl
   have h2 := psiL_eq (hV 2 (by decide)) rfl
   have h3 := psiL_eq (hV 3 (by decide)) rfl
   have h4 := psiL_eq (hV 4 (by decide)) rfl
   have h5 := psiL_eq (hV 5 (by decide)) rfl
   have h6 := psiL_eq (hV 6 (by decide)) rfl
   have h7 := psiL_eq (hV 7 (by decide)) rfl
   have h8 := psiL_eq (hV 8 (by decide)) rfl
   have h9 := psiL_eq (hV 9 (by decide)) rfl
   have h10 := psiL_eq (hV 10 (by decide)) rfl
   have h11 := psiL_eq (hV 11 (by decide)) rfl
   have h12 := psiL_eq (hV 12 (by decide)) rfl
   have h13 := psiL_eq (hV 13 (by decide)) rfl
   have h14 := psiL_eq (hV 14 (by decide)) rfl
   have h15 := psiL_eq (hV 15 (by decide)) rfl
   have h16 := psiL_eq (hV 16 (by decide)) rfl
   have h17 := psiL_eq (hV 17 (by decide)) rfl
   have h18 := psiL_eq (hV 18 (by decide)) rfl
   have h19 := psiL_eq (hV 19 (by decide)) rfl
   have h20 := psiL_eq (hV 20 (by decide)) rfl
   have h21 := psiL_eq (hV 21 (by decide)) rfl
   have h22 := psiL_eq (hV 22 (by decide)) rfl
   have h23 := psiL_eq (hV 23 (by decide)) rfl
   have h24 := psiL_eq (hV 24 (by decide)) rfl
   obtain ⟨z25, h25, p25⟩ := (show intV (fun q => Wt most (r + 1 + (x.dst.length : Int)) q (Pg.wEs x.args)) (VV 25) W0 from hV 25 (by decide))
   have h26 := psiL_eq (hV 26 (by decide)) rfl
   obtain ⟨z27, h27, p27⟩ := (show intV (fun q => Wt most (r + 1 + (x.dst.length : Int)) q (Pg.wEs x.args + Pg.wSs x.a)) (VV 27) W0 from hV 27 (by decide))
   have h28 := psiL_eq (hV 28 (by decide)) rfl
   obtain ⟨z29, h29, p29⟩ := (show intV (fun q => Wt most (r + 1 + (x.dst.length : Int)) q (Pg.wEs x.args + Pg.wSs x.a + Pg.wSs x.b)) (VV 29) W0 from hV 29 (by decide))
   simp [frV, dstOf, Act.put, h0, h1, h2, h3, h4, h5, h6, h7, h8, h9, h10, h11, h12, h13, h14, h15, h16, h17, h18, h19, h20, h21, h22, h23, h24, h25, h26, h27, h28, h29]
   clear h0 h1 h2 h3 h4 h5 h6 h7 h8 h9 h10 h11 h12 h13 h14 h15 h16 h17 h18 h19 h20 h21 h22 h23 h24 h25 h26 h27 h28 h29 hV g
   have GR : Hid (wr.grownBy W0 none) := gD
   clear gD
   have HQ9 : Hid (Wt most (r + 1 + (x.dst.length : Int)) z29 (Pg.wEs x.args + Pg.wSs x.a + Pg.wSs x.b)) := p29
   clear p25 p27 p29
   go_wp2_with fail
   go_roundw
   case rel =>
    obtain ⟨z1, z2, z3⟩ := HQ9.out
    refine ⟨k + 1, z29, by go_num, by omega, rfl, by omega, ⟨by omega, z2, fun h => ?_⟩, grown_trans HG.out GR.out⟩
    rw [Pg.wSs_succ hkn, hxk, z3 h, HX.out]
    omega
   case measure => simp [intOf]; omega
theorem stmts_any {most : Int} (hm : 0 ≤ most ∧ most ≤ 1000000) (l : List Pg.St) : WtS most l :=
 stmts_list hm l fun x _ => Pg.St.ind (P := fun x => WtS most x.a ∧ WtS most x.b) (fun _ _ _ _ a b ia ib => ⟨stmts_list hm a ia, stmts_list hm b ib⟩) x
end Go.Proofs.YtpcgkggpmipiaaaGreat
