/- check.take. -/
import Derived.Test.YtpcgkggpmipiaaaGreatG23
import Derived.Test.YtpcgkggpmipiaaaGreatG16
namespace Go.Proofs.YtpcgkggpmipiaaaGreat
open Go.RowKit
set_option linter.unusedVariables false
set_option maxRecDepth 100000
set_option maxHeartbeats 8000000
structure Tk (N : Nat) (w W : World) (p : Pg.Pr) (a1 a2 va : Option Addr) (k1 k2 vc PB RB TB m : Nat) : Prop where
 g : w.grownBy W none
 pb : Bk W PB 27 [.slice a1 p.types.length k1, .slice a2 m k2]
 rb : Bk W RB 74 [.slice none 0 0, .slice none 0 0]
 tb : Bk W TB 74 [.slice a1 p.types.length k1, .slice va p.types.length vc]
 t : Tb N W a1 k1 va vc (Pg.tab p.types) p.types.length
 f : FnL (fun b => b < N) W a2 k2 p.funcs
 nw : N ≤ W.heap.size
 ty : TysIn PB W a1 p.types.length k1 (Pg.tab p.types)
 vb : p.types.length = 0 ∨ ∃ b, va = some ⟨b, 0, none⟩ ∧ RB < b
theorem Tk.grow {N : Nat} {w W W' : World} {p : Pg.Pr} {a1 a2 va : Option Addr} {k1 k2 vc PB RB TB m : Nat} (h : Tk N w W p a1 a2 va k1 k2 vc PB RB TB m) (g : W.grownBy W' none) : Tk N w W' p a1 a2 va k1 k2 vc PB RB TB m :=
 ⟨grown_trans h.g g, h.pb.grow g, h.rb.grow g, h.tb.grow g, h.t.grow g, FnL.ch (l := []) h.f (Ch.of g) (by simp) (fun _ h => h), by have := h.nw; have := g.size; omega, h.ty.grow9 g, h.vb⟩
structure TkH (p : Pg.Pr) : Prop where
 e : p.err = 0
 c : Ty.chk (Pg.tab p.types) p.types.length = 0
 nd : p.dl.nd < 33554432
 dp : p.dl.dp < 65536
structure TkG (p : Pg.Pr) : Prop where
 h : TkH p
 f : 0 < p.funcs.length ∧ p.funcs.length ≤ 32
theorem TkG.tp {p : Pg.Pr} (h : TkG p) : Ck.takeP p = (do Ck.heads (Ck.of p) true p.funcs; Ck.bodies (Ck.of p) p.funcs) := Ck.take_4 h.h.e h.h.c h.f
def TakeE (w : World) (p : Pg.Pr) (a1 : Option Addr) (k1 : Nat) (e : Ending) (w' : World) : Prop :=
 w.grownBy w' none ∧ match Ck.takeP p with
 | .ok _ => ∃ va vc N, e = .returned (.agg #[.slice a1 p.types.length k1, .slice va p.types.length vc]) ∧ w.heap.size ≤ N ∧ N ≤ w'.heap.size ∧ Tb N w' a1 k1 va vc (Pg.tab p.types) p.types.length
 | .error x => e = ckF x
theorem TakeE.err {w w' : World} {p : Pg.Pr} {a1 : Option Addr} {k1 : Nat} {x : Int} (hg : w.grownBy w' none) (h : Ck.takeP p = .error x) : TakeE w p a1 k1 (ckF x) w' := ⟨hg, by rw [h]⟩
theorem ckTake {w : World} {p : Pg.Pr} {a1 a2 : Option Addr} {k1 k2 : Nat} (h : PrC (fun k => k < w.heap.size) w p a1 a2 k1 k2) (hr : Rm ⟨false, 0, 0, 0⟩ [] p.dl) (hn : p.types.length ≤ 1000000) :
  Calls Tryz.prog 29 #[.agg #[.slice a1 p.types.length k1, .slice a2 p.funcs.length k2]] w fun e w' => TakeE w p a1 k1 e w' := by
 obtain ⟨m, hm⟩ : ∃ m, m = p.funcs.length := ⟨_, rfl⟩
 rw [← hm]
 have HMm : Hid (p.funcs.length = m) := hm.symm
 have HM : Hid (∀ (b : Bool) (e : Int) W, Calls Tryz.prog 42 #[.bool b, .int .i64 e] W fun r w' => r = (bif b then .returned (.tuple #[]) else ckF e) ∧ w' = W) := ckMust_any
 obtain ⟨W1, hW1⟩ : ∃ W, W = (w.alloc (Obj.cells #[.slice a1 p.types.length k1, .slice a2 m k2] 27)).alloc (Obj.cells #[.slice none 0 0, .slice none 0 0] 74) := ⟨_, rfl⟩
 obtain ⟨PB, hPB⟩ : ∃ B, B = w.heap.size := ⟨_, rfl⟩
 have g1 : w.grownBy W1 none := by rw [hW1]; exact ga (World.grownBy_alloc _ _ _) _
 have kp : Bk W1 PB 27 [.slice a1 p.types.length k1, .slice a2 m k2] := by rw [hW1, hPB]; exact (Bk.new _ _ _).grow (World.grownBy_alloc _ _ _)
 have kr : Bk W1 (PB + 1) 74 [.slice none 0 0, .slice none 0 0] := by
  rw [hW1, hPB]
  have := Bk.new (w.alloc (Obj.cells #[.slice a1 p.types.length k1, .slice a2 m k2] 27)) 74 [.slice none 0 0, .slice none 0 0]
  simpa using this
 have HW1 : Hid ((w.alloc (Obj.cells #[.slice a1 p.types.length k1, .slice a2 m k2] 27)).alloc (Obj.cells #[.slice none 0 0, .slice none 0 0] 74) = W1 ∧ w.heap.size = PB) := ⟨hW1.symm, hPB.symm⟩
 have HK1 : Hid (Bk W1 PB 27 [.slice a1 p.types.length k1, .slice a2 m k2] ∧ Bk W1 (PB + 1) 74 [.slice none 0 0, .slice none 0 0] ∧ w.grownBy W1 none) := ⟨kp, kr, g1⟩
 have hP1 : PB + 1 < W1.heap.size := kr.lt
 obtain ⟨E, hE⟩ : ∃ E, E = p.err := ⟨_, rfl⟩
 have HE : Hid (p.err = E) := hE.symm
 have hP1' : PrC (fun k => k < W1.heap.size) W1 p a1 a2 k1 k2 := PrC.ch (l := []) (Ch.of g1) (by simp) (fun k hk => by have := g1.size; omega) h
 have HEn : Hid (Calls Tryz.prog 55 #[.agg #[.slice a1 p.types.length k1, .slice a2 m k2]] W1 fun e w' => (∃ a m c, e = .returned (.tuple #[.slice a m c, .int .i64 E])) ∧ W1.grownBy w' none) := by
  rw [hm]
  by_cases h0 : p.err = 0
  ·refine (encode_ok hP1' hr h0).mono fun e w' h9 => ?_
   obtain ⟨v, rfl, ho, hg⟩ := h9
   obtain ⟨ao, cp, rfl, _⟩ := ho.toB.shape
   exact ⟨⟨_, _, _, by rw [hE, h0]⟩, hg⟩
  ·refine (encode_no hP1' hr h0).mono fun e w' h9 => ⟨⟨_, _, _, by rw [hE]; exact h9.1⟩, h9.2⟩
 have HFs : Hid (∀ W, W1.grownBy W none → ∀ N, PB ≤ N → FnL (fun b => b < N) W a2 k2 p.funcs) := fun W g N hN => FnL.ch (l := []) h.f (Ch.of (grown_trans g1 g)) (by simp) (fun k hk => by omega)
 have HNt : Hid (∀ W, W1.grownBy W none → Calls Tryz.prog 56 #[.slice a1 p.types.length k1] W fun e w' => TabE W (Pg.tab p.types) p.types.length a1 k1 e w') := fun W g => ckNewTable (N := w.heap.size) (TpL.tys (TpL.ch (l := []) h.t (Ch.of (grown_trans g1 g)) (by simp) (fun _ h => h))) (by have := g1.size; have := g.size; omega) hn
 have HTy : Hid (∀ W, W1.grownBy W none → TysIn w.heap.size W a1 p.types.length k1 (Pg.tab p.types)) := fun W g => TpL.tys (TpL.ch (l := []) h.t (Ch.of (grown_trans g1 g)) (by simp) (fun _ h => h))
 have HRm : Hid (p.dl.nd < 33554432 ∧ p.dl.dp < 65536) := ⟨by have := hr.1; simp at this; omega, by have := hr.2.1; simp at this; omega⟩
 clear hW1 hPB g1 kp kr hE hP1' h hr hn hm
 rcases Bool.eq_false_or_eq_true (E == 0) with q0 | q0
 case inr =>
  have HQ : Hid (p.err ≠ 0) := by show _ ≠ _; rw [HE.out]; simpa using q0
  go_enter Tryz.func29, Tryz.ntmps29
  go_wp2_with (first | (go_at_call 42; refine (HM.out _ _ _).mono ?_; rintro e w9 ⟨rfl, hw9⟩; rw [hw9]; clear hw9 w9; simp only [cond_false]) | (go_at_call 55; rw [HW1.out.1, HW1.out.2]; refine HEn.out.mono ?_; rintro e w2 ⟨⟨ae, me, ce, rfl⟩, hg2⟩; have HG2 : Hid (W1.grownBy w2 none) := hg2; clear hg2))
  exact ⟨rfl, TakeE.err (grown_trans HK1.out.2.2 HG2.out) (by rw [Ck.take_1 HQ.out, HE.out])⟩
 have HQ : Hid (p.err = 0) := by show _ = _; rw [HE.out]; simpa using q0
 obtain ⟨ch, hch⟩ : ∃ x, x = Ty.chk (Pg.tab p.types) p.types.length := ⟨_, rfl⟩
 have HCh : Hid (Ty.chk (Pg.tab p.types) p.types.length = ch) := hch.symm
 clear hch
 by_cases qc : ch = 0
 case neg =>
  have HQc : Hid (¬ ch = 0) := qc
  have HNt2 : Hid (∀ W, W1.grownBy W none → Calls Tryz.prog 56 #[.slice a1 p.types.length k1] W fun e w' => e = ckF 90 ∧ W.grownBy w' none) := fun W g => (HNt.out W g).mono fun e w' h9 => by
   unfold TabE at h9
   rw [HCh.out, if_neg HQc.out] at h9
   exact ⟨h9.2, h9.1⟩
  clear HNt qc
  go_enter Tryz.func29, Tryz.ntmps29
  go_wp2_with (first | (go_at_call 42; refine (HM.out _ _ _).mono ?_; rintro e w9 ⟨rfl, hw9⟩; rw [hw9]; clear hw9 w9; simp only [cond_true]) | (go_at_call 55; rw [HW1.out.1, HW1.out.2]; refine HEn.out.mono ?_; rintro e w2 ⟨⟨ae, me, ce, rfl⟩, hg2⟩; have HG2 : Hid (W1.grownBy w2 none) := hg2; have p0 := (HK1.out.1.grow hg2).cell (i := 0) rfl; clear hg2) | (go_at_call 56; refine (HNt2.out _ HG2.out).mono ?_; rintro e w3 ⟨rfl, hg3⟩; have HG3 : Hid (W1.grownBy w3 none) := grown_trans HG2.out hg3; clear hg3))
  exact ⟨rfl, TakeE.err (grown_trans HK1.out.2.2 HG3.out) (Ck.take_2 HQ.out (by rw [HCh.out]; exact HQc.out))⟩
 have HQc : Hid (Ty.chk (Pg.tab p.types) p.types.length = 0) := by show _ = _; rw [HCh.out]; exact qc
 have HNt2 : Hid (∀ W, W1.grownBy W none → Calls Tryz.prog 56 #[.slice a1 p.types.length k1] W fun e w' => ∃ va vc, e = .returned (.agg #[.slice a1 p.types.length k1, .slice va p.types.length vc]) ∧ W.grownBy w' none ∧ Tb w'.heap.size w' a1 k1 va vc (Pg.tab p.types) p.types.length ∧ (p.types.length = 0 ∨ ∃ b, va = some ⟨b, 0, none⟩ ∧ PB + 1 < b)) := fun W g => (HNt.out W g).mono fun e w' h9 => by
  unfold TabE at h9
  rw [HQc.out, if_pos rfl] at h9
  obtain ⟨hg, va, vc, he, hv, hb⟩ := h9
  refine ⟨va, vc, he, hg, ⟨((HTy.out w' (grown_trans g hg))).up (by have := HK1.out.2.2.size; have := g.size; have := hg.size; omega), ?_, hv, (Ty.chk_ok HQc.out).1⟩, ?_⟩
  ·rcases hb with h0 | ⟨b, e1, e2, e3, e4⟩
   ·exact .inl h0
   ·exact .inr ⟨b, e1, e3, e4⟩
  ·rcases hb with h0 | ⟨b, e1, e2, e3, e4⟩
   ·exact .inl h0
   ·exact .inr ⟨b, e1, by have := g.size; omega⟩
 have HH0 : Hid (TkH p) := ⟨HQ.out, HQc.out, HRm.out.1, HRm.out.2⟩
 clear HNt qc HCh HRm HE HQ HQc
 by_cases h3 : 0 < m ∧ m ≤ 32
 case neg =>
  have HQ3 : Hid (¬ (0 < m ∧ m ≤ 32)) := h3
  have hz : ((0 : Int) < (m : Int)) ∨ ¬ ((0 : Int) < (m : Int)) := Classical.em _
  rcases hz with hz | hz
  ·have hz2 : decide ((m : Int) ≤ 32) = false := decide_eq_false (by omega)
   clear h3
   go_enter Tryz.func29, Tryz.ntmps29
   go_wp2_with (first | (go_at_call 42; refine (HM.out _ _ _).mono ?_; rintro e w9 ⟨rfl, hw9⟩; rw [hw9]; clear hw9 w9; simp only [cond_true, cond_false]) | (go_at_call 55; rw [HW1.out.1, HW1.out.2]; refine HEn.out.mono ?_; rintro e w2 ⟨⟨ae, me, ce, rfl⟩, hg2⟩; have HG2 : Hid (W1.grownBy w2 none) := hg2; have p0 := (HK1.out.1.grow hg2).cell (i := 0) rfl; clear hg2) | (go_at_call 56; refine (HNt2.out _ HG2.out).mono ?_; rintro e w3 ⟨va, vc, rfl, hg3, ht3⟩; clear ht3; have HG3 : Hid (W1.grownBy w3 none) := grown_trans HG2.out hg3; have p1 := (HK1.out.1.grow HG3.out).cell (i := 1) rfl; have hP3 : PB < w3.heap.size := (by have := HG3.out.size; omega); clear hg3 hP1))
   all_goals exact ⟨rfl, TakeE.err (ga (grown_trans HK1.out.2.2 HG3.out) _) (Ck.take_3 HH0.out.e HH0.out.c (by rw [HMm.out]; exact HQ3.out))⟩
  ·skip
   clear h3
   go_enter Tryz.func29, Tryz.ntmps29
   go_wp2_with (first | (go_at_call 42; refine (HM.out _ _ _).mono ?_; rintro e w9 ⟨rfl, hw9⟩; rw [hw9]; clear hw9 w9; simp only [cond_true, cond_false]) | (go_at_call 55; rw [HW1.out.1, HW1.out.2]; refine HEn.out.mono ?_; rintro e w2 ⟨⟨ae, me, ce, rfl⟩, hg2⟩; have HG2 : Hid (W1.grownBy w2 none) := hg2; have p0 := (HK1.out.1.grow hg2).cell (i := 0) rfl; clear hg2) | (go_at_call 56; refine (HNt2.out _ HG2.out).mono ?_; rintro e w3 ⟨va, vc, rfl, hg3, ht3⟩; clear ht3; have HG3 : Hid (W1.grownBy w3 none) := grown_trans HG2.out hg3; have p1 := (HK1.out.1.grow HG3.out).cell (i := 1) rfl; have hP3 : PB < w3.heap.size := (by have := HG3.out.size; omega); clear hg3 hP1))
   all_goals exact ⟨rfl, TakeE.err (ga (grown_trans HK1.out.2.2 HG3.out) _) (Ck.take_3 HH0.out.e HH0.out.c (by rw [HMm.out]; exact HQ3.out))⟩
 have HG0 : Hid (TkG p) := ⟨HH0.out, by rw [HMm.out]; exact h3⟩
 have hz : (0 : Int) < (m : Int) := by omega
 have hz3 : decide ((m : Int) ≤ 32) = true := decide_eq_true (by omega)
 have HM32 : Hid (m ≤ 32) := h3.2
 clear h3
 go_enter Tryz.func29, Tryz.ntmps29
 go_wp2_with (first | (go_at_call 42; refine (HM.out _ _ _).mono ?_; rintro e w9 ⟨rfl, hw9⟩; rw [hw9]; clear hw9 w9; simp only [cond_true, cond_false]) | (go_at_call 55; rw [HW1.out.1, HW1.out.2]; refine HEn.out.mono ?_; rintro e w2 ⟨⟨ae, me, ce, rfl⟩, hg2⟩; have HG2 : Hid (W1.grownBy w2 none) := hg2; have p0 := (HK1.out.1.grow hg2).cell (i := 0) rfl; clear hg2) | (go_at_call 56; refine (HNt2.out _ HG2.out).mono ?_; rintro e w3 ⟨va, vc, rfl, hg3, ht3, hv3⟩; have HG3 : Hid (W1.grownBy w3 none) := grown_trans HG2.out hg3; have p1 := (HK1.out.1.grow HG3.out).cell (i := 1) rfl; have HT3 : Hid (Tb w3.heap.size w3 a1 k1 va vc (Pg.tab p.types) p.types.length ∧ (p.types.length = 0 ∨ ∃ b, va = some ⟨b, 0, none⟩ ∧ PB + 1 < b)) := ⟨ht3, hv3⟩; have hP3 : PB < w3.heap.size := (by have := HG3.out.size; omega); clear hg3 ht3 hv3 hP1))
 all_goals try (exfalso; omega)
 obtain ⟨W4, hW4⟩ : ∃ W, W = w3.alloc (Obj.cells #[.slice a1 p.types.length k1, .slice va p.types.length vc] 74) := ⟨_, rfl⟩
 obtain ⟨TB, hTB⟩ : ∃ B, B = w3.heap.size := ⟨_, rfl⟩
 obtain ⟨N, hN⟩ : ∃ N, N = w3.heap.size := ⟨_, rfl⟩
 rw [← hW4, ← hTB]
 have HT4 : Hid (Tk N w W4 p a1 a2 va k1 k2 vc PB (PB + 1) TB m) := by
  have g4 : w3.grownBy W4 none := by rw [hW4]; exact World.grownBy_alloc _ _ _
  have g14 := grown_trans HG3.out g4
  refine ⟨grown_trans HK1.out.2.2 g14, HK1.out.1.grow g14, HK1.out.2.1.grow g14, by rw [hW4, hTB]; exact Bk.new _ _ _, by rw [hN]; exact HT3.out.1.grow g4, HFs.out _ g14 N (by omega), by rw [hN]; exact g4.size, by rw [← HW1.out.2]; exact HTy.out _ g14, HT3.out.2⟩
 have HN : Hid (w.heap.size ≤ N) := by have := HK1.out.2.2.size; have := HG3.out.size; show _ ≤ _; omega
 have HPw : Hid (w.heap.size = PB) := HW1.out.2
 clear hW4 hTB hN HT3 HFs p0 p1 HG3 HG2 hP3 HTy HNt2 HEn HK1 HW1
 go_loopw [36] (fun ix wr => ∃ j : Nat, ix = .int .i64 j ∧ j ≤ m ∧ Ck.heads (Ck.of p) true (p.funcs.take j) = .ok () ∧ Tk N w wr p a1 a2 va k1 k2 vc PB (PB + 1) TB m) (fun ix _ => m - (intOf ix).toNat)
 case atStart => exact ⟨0, rfl, Nat.zero_le _, rfl, HT4.out⟩
 case round =>
  obtain ⟨j, rfl, hj, hh, hT⟩ := hrel
  have HT : Hid (Tk N w wr p a1 a2 va k1 k2 vc PB (PB + 1) TB m) := hT
  have HH : Hid (Ck.heads (Ck.of p) true (p.funcs.take j) = .ok ()) := hh
  have t0 := hT.tb.cell (i := 0) rfl
  have t1 := hT.tb.cell (i := 1) rfl
  have htl := hT.tb.lt
  clear hh HT4
  by_cases hjn : j < m
  ·have hjn' : (j : Int) < m := by omega
   have hm32 := HM32.out
   have hjl : j < p.funcs.length := by rw [HMm.out]; exact hjn
   obtain ⟨fb, fo, rfl, hb, hx⟩ := hT.f.at hjl
   obtain ⟨la, ra, ba, lc, rc, bc, he⟩ := hx
   have HYd := Ck.heads_at hjl HH.out
   have HYt := Ck.heads_to hjl HH.out
   obtain ⟨y, hy⟩ : ∃ y, y = p.funcs[j] := ⟨_, rfl⟩
   rw [← hy] at he HYd HYt
   have c0 := he.c0
   have c1 := he.c1
   have c2 := he.c2
   have c3 := he.c3
   have HHd : Hid (∀ W, wr.grownBy W none → Calls Tryz.prog 57 #[.agg #[.slice a1 p.types.length k1, .slice va p.types.length vc], .agg #[.int .i64 y.params, .slice la y.locals.length lc, .slice ra y.results.length rc, .slice ba y.body.length bc]] W fun e w' => e = ckE (fun _ => Value.tuple #[]) (Ck.head (Ck.of p) y) ∧ W.grownBy w' none) := fun W g => ckHead (c := Ck.of p) (HT.out.t.grow g) y ((NumL.numIn he.l (fun _ h => h)).grow g) ((NumL.numIn he.r (fun _ h => h)).grow g)
   have HFi : Hid (Ck.head (Ck.of p) y = .ok () → ∀ W, wr.grownBy W none → Calls Tryz.prog 58 #[.agg #[.slice a1 p.types.length k1, .slice va p.types.length vc], .agg #[.int .i64 y.params, .slice la y.locals.length lc, .slice ra y.results.length rc, .slice ba y.body.length bc]] W fun e w' => e = ckE (fun _ => Value.tuple #[]) (Ck.first (Ck.of p) y) ∧ W.grownBy w' none) := fun hk W g => by
    obtain ⟨e1, e2, e3, e4⟩ := Ck.head_ok hk
    exact ckFirst (c := Ck.of p) (HT.out.t.grow g) y ((NumL.numIn he.l (fun _ h => h)).grow g) ((NumL.numIn he.r (fun _ h => h)).grow g) e3 e4 ⟨e1, e2⟩
   have HYd2 : Hid (Ck.heads (Ck.of p) true p.funcs = (do Ck.head (Ck.of p) y; (if j = 0 then Ck.first (Ck.of p) y else pure ()); Ck.heads (Ck.of p) false (p.funcs.drop (j + 1)))) := HYd
   have HYt2 : Hid (Ck.heads (Ck.of p) true (p.funcs.take (j + 1)) = (do Ck.head (Ck.of p) y; (if j = 0 then Ck.first (Ck.of p) y else pure ()))) := HYt
   have hbl : fb < wr.heap.size := by have := hT.nw; omega
   clear he hy HYd HYt hT hb hjl
   cases hhd : Ck.head (Ck.of p) y with
   | error er =>
    rw [hhd] at HHd HYd2
    simp only [ckE] at HHd
    go_wp2_with (go_at_call 57; refine (HHd.out _ (World.grownBy_alloc _ _ _)).mono ?_; rintro e w5 ⟨rfl, hg5⟩; have HG5 : Hid (wr.grownBy w5 none) := grown_trans (World.grownBy_alloc _ _ _) hg5; clear hg5)
    exact ⟨rfl, TakeE.err (grown_trans HT.out.g HG5.out) (by rw [HG0.out.tp, HYd2.out]; rfl)⟩
   | ok u =>
    obtain ⟨⟩ := u
    have HFi2 := HFi.out hhd
    have HFi3 : Hid (∀ W, wr.grownBy W none → Calls Tryz.prog 58 #[.agg #[.slice a1 p.types.length k1, .slice va p.types.length vc], .agg #[.int .i64 y.params, .slice la y.locals.length lc, .slice ra y.results.length rc, .slice ba y.body.length bc]] W fun e w' => e = ckE (fun _ => Value.tuple #[]) (Ck.first (Ck.of p) y) ∧ W.grownBy w' none) := HFi2
    clear HFi HFi2
    rw [hhd] at HHd HYd2 HYt2
    simp only [ckE] at HHd
    obtain ⟨FB, hFB⟩ : ∃ B, B = wr.heap.size := ⟨_, rfl⟩
    have HFB : Hid (wr.heap.size = FB ∧ Bk (wr.alloc (Obj.cells #[.int .i64 y.params, .slice la y.locals.length lc, .slice ra y.results.length rc, .slice ba y.body.length bc] 53)) FB 53 [.int .i64 y.params, .slice la y.locals.length lc, .slice ra y.results.length rc, .slice ba y.body.length bc]) := ⟨hFB.symm, by rw [hFB]; exact Bk.new _ _ _⟩
    clear hFB
    by_cases hj0 : j = 0
    ·have HJ : Hid (j = 0) := hj0
     have hj0' : ((j : Int) == 0) = true := by simp [hj0]
     clear hj0
     cases hfi : Ck.first (Ck.of p) y with
     | error er =>
      rw [hfi] at HFi3 HYd2
      simp only [ckE] at HFi3
      go_wp2_with (first | (go_at_call 57; refine (HHd.out _ (World.grownBy_alloc _ _ _)).mono ?_; rintro e w5 ⟨rfl, hg5⟩; have HG5 : Hid (wr.grownBy w5 none) := grown_trans (World.grownBy_alloc _ _ _) hg5; rw [HFB.out.1]; have hk5 := HFB.out.2.grow hg5; have z0 := hk5.cell (i := 0) rfl; have z1 := hk5.cell (i := 1) rfl; have z2 := hk5.cell (i := 2) rfl; have z3 := hk5.cell (i := 3) rfl; have y0 := (HT.out.tb.grow HG5.out).cell (i := 0) rfl; have y1 := (HT.out.tb.grow HG5.out).cell (i := 1) rfl; clear hg5 hk5) | (go_at_call 58; refine (HFi3.out _ HG5.out).mono ?_; rintro e w6 ⟨rfl, hg6⟩; have HG6 : Hid (wr.grownBy w6 none) := grown_trans HG5.out hg6; clear hg6))
      exact ⟨rfl, TakeE.err (grown_trans HT.out.g HG6.out) (by rw [HG0.out.tp, HYd2.out, if_pos HJ.out]; rfl)⟩
     | ok u =>
      obtain ⟨⟩ := u
      rw [hfi] at HFi3 HYt2
      simp only [ckE] at HFi3
      go_wp2_with (first | (go_at_call 57; refine (HHd.out _ (World.grownBy_alloc _ _ _)).mono ?_; rintro e w5 ⟨rfl, hg5⟩; have HG5 : Hid (wr.grownBy w5 none) := grown_trans (World.grownBy_alloc _ _ _) hg5; rw [HFB.out.1]; have hk5 := HFB.out.2.grow hg5; have z0 := hk5.cell (i := 0) rfl; have z1 := hk5.cell (i := 1) rfl; have z2 := hk5.cell (i := 2) rfl; have z3 := hk5.cell (i := 3) rfl; have y0 := (HT.out.tb.grow HG5.out).cell (i := 0) rfl; have y1 := (HT.out.tb.grow HG5.out).cell (i := 1) rfl; clear hg5 hk5) | (go_at_call 58; refine (HFi3.out _ HG5.out).mono ?_; rintro e w6 ⟨rfl, hg6⟩; have HG6 : Hid (wr.grownBy w6 none) := grown_trans HG5.out hg6; clear hg6))
      go_roundw
      case rel => exact ⟨j + 1, by go_num, by omega, by rw [HYt2.out, if_pos HJ.out]; rfl, HT.out.grow HG6.out⟩
      case measure => simp [intOf]; omega
    ·have HJ : Hid (¬ j = 0) := hj0
     have hj0' : ((j : Int) == 0) = false := by simp; omega
     clear hj0
     go_wp2_with (first | (go_at_call 57; refine (HHd.out _ (World.grownBy_alloc _ _ _)).mono ?_; rintro e w5 ⟨rfl, hg5⟩; have HG5 : Hid (wr.grownBy w5 none) := grown_trans (World.grownBy_alloc _ _ _) hg5; rw [HFB.out.1]; clear hg5))
     go_roundw
     case rel => exact ⟨j + 1, by go_num, by omega, by rw [HYt2.out, if_neg HJ.out]; rfl, HT.out.grow HG5.out⟩
     case measure => simp [intOf]; omega
  ·obtain rfl : m = j := by omega
   have HHok : Hid (Ck.heads (Ck.of p) true p.funcs = .ok ()) := by
    have := HH.out
    rw [← HMm.out, List.take_length] at this
    exact this
   obtain ⟨wq, rfl⟩ : ∃ wq, wq = wr := ⟨_, rfl⟩
   have p1 := hT.pb.cell (i := 1) rfl
   clear hT HH t0 t1 hjn hj htl
   go_wp2_with fail
   go_loopw [53] (fun ix wr => ∃ j : Nat, ix = .int .i64 j ∧ j ≤ m ∧ Ck.bodies (Ck.of p) (p.funcs.take j) = .ok () ∧ Tk N w wr p a1 a2 va k1 k2 vc PB (PB + 1) TB m) (fun ix _ => m - (intOf ix).toNat)
   case atStart => exact ⟨0, rfl, Nat.zero_le _, rfl, HT.out⟩
   case round =>
    obtain ⟨j, rfl, hj, hh, hT⟩ := hrel
    clear HT p1
    have HT : Hid (Tk N w wr p a1 a2 va k1 k2 vc PB (PB + 1) TB m) := hT
    have HH : Hid (Ck.bodies (Ck.of p) (p.funcs.take j) = .ok ()) := hh
    clear hh
    by_cases hjn : j < m
    ·have hjn' : (j : Int) < m := by omega
     have hm32 := HM32.out
     have hjl : j < p.funcs.length := by rw [HMm.out]; exact hjn
     obtain ⟨fb, fo, rfl, hb, hx⟩ := hT.f.at hjl
     obtain ⟨la, ra, ba, lc, rc, bc, he⟩ := hx
     have HYd := Ck.bodies_at hjl HH.out
     have HYt := Ck.bodies_to hjl HH.out
     obtain ⟨y, hy⟩ : ∃ y, y = p.funcs[j] := ⟨_, rfl⟩
     have hym : y ∈ p.funcs := by rw [hy]; exact List.getElem_mem hjl
     rw [← hy] at he HYd HYt
     have c0 := he.c0
     have c1 := he.c1
     have c2 := he.c2
     have c3 := he.c3
     have hbl : fb < wr.heap.size := by have := hT.nw; omega
     have HYd2 : Hid (Ck.bodies (Ck.of p) p.funcs = (do Ck.sms { Ck.of p with f := y } 0 y.body; Ck.must (Ck.ens y.body) 99; Ck.bodies (Ck.of p) (p.funcs.drop (j + 1)))) := HYd
     have HYt2 : Hid (Ck.bodies (Ck.of p) (p.funcs.take (j + 1)) = (do Ck.sms { Ck.of p with f := y } 0 y.body; Ck.must (Ck.ens y.body) 99)) := HYt
     have HWi : Hid (∀ W, wr.grownBy W none → Calls Tryz.prog 44 #[.agg #[.slice a1 p.types.length k1, .slice va p.types.length vc], .slice (some ⟨fb, fo, none⟩) m k2, .int .i64 (j : Int)] W fun e w' => ∃ v, e = .returned v ∧ W.grownBy w' none ∧ ∃ SB, v = .pointer (some ⟨SB, 0, none⟩) ∧ W.heap.size ≤ SB ∧ Sx N w' SB { Ck.of p with f := y } ⟨a1, k1, va, vc, some ⟨fb, fo, none⟩, k2, la, lc, ra, rc, ba, bc⟩ 0 0 0) := fun W g => by
      have hTW := HT.out.grow g
      rw [← HMm.out]
      refine (ckWithin (N := N) (c := { Ck.of p with f := y }) (A := ⟨a1, k1, va, vc, some ⟨fb, fo, none⟩, k2, la, lc, ra, rc, ba, bc⟩) (j := j) hjl hy.symm hTW.f rfl ⟨g.cell c0 (by simp), g.cell c1 (by simp), g.cell c2 (by simp), g.cell c3 (by simp), NumL.ch (l := []) he.l (Ch.of g) (by simp) (fun _ h => h), NumL.ch (l := []) he.r (Ch.of g) (by simp) (fun _ h => h), StL.ch (l := []) he.b (Ch.of g) (by simp) (fun _ h => h)⟩).mono fun e w' h9 => ?_
      obtain ⟨SB, rfl, h1, h2, h3⟩ := h9
      have hgg := grown_trans g h3
      refine ⟨_, rfl, h3, SB, rfl, h1, ⟨⟨h2, hTW.t.grow h3, (NumL.numIn he.l (fun _ h => h)).grow hgg, (NumL.numIn he.r (fun _ h => h)).grow hgg, ?_⟩, (hTW.grow h3).f⟩⟩
      have := hTW.nw
      omega
     have hwf : Ck.Wf { Ck.of p with f := y } := Ck.wf_of HH0.out.c (Ck.head_ok (Ck.heads_mem HHok.out y hym)).2.2.1
     have hfo : Ck.Fok { Ck.of p with f := y } := fun g hg => by
      have := Ck.head_ok (Ck.heads_mem HHok.out g hg)
      exact ⟨this.1, this.2.1⟩
     have hbd := Pg.body_le hym
     have HSt : Hid (∀ W SB, wr.grownBy W none → Sx N W SB { Ck.of p with f := y } ⟨a1, k1, va, vc, some ⟨fb, fo, none⟩, k2, la, lc, ra, rc, ba, bc⟩ 0 0 0 → Calls Tryz.prog 59 #[.pointer (some ⟨SB, 0, none⟩), .slice ba y.body.length bc] W fun e w' => e = ckE (fun _ => Value.tuple #[]) (Ck.sms { Ck.of p with f := y } 0 y.body) ∧ Ch W w' [SB]) := fun W SB g hs => (ckStatements y.body (fun y _ => ckStmt y) hwf hfo hs (StL.ch (l := []) he.b (Ch.of g) (by simp) (fun _ h => h)) (by omega) (by have := HH0.out.nd; omega) (by omega) (by have := HH0.out.dp; omega) (by have := HH0.out.dp; omega)).mono fun e w' h9 => ⟨h9.1, h9.2.1⟩
     have HEd : Hid (∀ W, wr.grownBy W none → Calls Tryz.prog 60 #[.slice ba y.body.length bc] W fun r w' => r = .returned (.bool (Ck.ens y.body)) ∧ W.grownBy w' none) := fun W g => ckEnds y.body (fun y _ => ckEn y) (B := fun b => b < N) (StL.ch (l := []) he.b (Ch.of g) (by simp) (fun _ h => h)) (by have := HH0.out.dp; omega)
     obtain ⟨FB, hFB⟩ : ∃ B, B = wr.heap.size := ⟨_, rfl⟩
     obtain ⟨W6, hW6⟩ : ∃ W, W = wr.alloc (Obj.cells #[.int .i64 y.params, .slice la y.locals.length lc, .slice ra y.results.length rc, .slice ba y.body.length bc] 53) := ⟨_, rfl⟩
     have HK6 : Hid (Bk W6 FB 53 [.int .i64 y.params, .slice la y.locals.length lc, .slice ra y.results.length rc, .slice ba y.body.length bc]) := by rw [hFB, hW6]; exact Bk.new _ _ _
     have HG6 : Hid (wr.grownBy W6 none) := by rw [hW6]; exact World.grownBy_alloc _ _ _
     have HX : Hid (∀ W, W6.grownBy W none → W.cell? ⟨TB, 0, none⟩ = some (.slice a1 p.types.length k1) ∧ W.cell? ⟨TB, 1, none⟩ = some (.slice va p.types.length vc) ∧ W.cell? ⟨PB, 1, none⟩ = some (.slice (some ⟨fb, fo, none⟩) m k2) ∧ W.cell? ⟨FB, 3, none⟩ = some (.slice ba y.body.length bc)) := fun W g => ⟨(HT.out.tb.grow (grown_trans HG6.out g)).cell (i := 0) rfl, (HT.out.tb.grow (grown_trans HG6.out g)).cell (i := 1) rfl, (HT.out.pb.grow (grown_trans HG6.out g)).cell (i := 1) rfl, (HK6.out.grow g).cell (i := 3) rfl⟩
     clear hT he hy HYd HYt hym hwf hfo hbd hb hjl
     obtain ⟨S, hS⟩ : ∃ S, S = Ck.sms { Ck.of p with f := y } 0 y.body := ⟨_, rfl⟩
     obtain ⟨z, hz⟩ : ∃ z, z = Ck.ens y.body := ⟨_, rfl⟩
     rw [← hS] at HSt HYd2 HYt2
     rw [← hz] at HEd HYd2 HYt2
     clear hS hz
     go_wp2_with fail
     rw [← hW6, ← hFB]
     have HFB : Hid (FB < wr.heap.size + 1) := by show _ < _; omega
     clear hW6 hFB
     refine region_ly (fun w w' => w.grownBy w' none) (fun h1 h2 => grown_trans h1 h2) (fun w => World.grownBy.refl _ _) 7 [.val (.agg #[.slice a1 p.types.length k1, .slice va p.types.length vc]), .val (.pointer (some ⟨PB, 1, none⟩)), .val (.slice (some ⟨fb, fo, none⟩) m k2), .val (.int .i64 (j : Int)), .prop (fun v w9 => ∃ SB, v = .pointer (some ⟨SB, 0, none⟩) ∧ W6.heap.size ≤ SB ∧ Sx N w9 SB { Ck.of p with f := y } ⟨a1, k1, va, vc, some ⟨fb, fo, none⟩, k2, la, lc, ra, rc, ba, bc⟩ 0 0 0), .val (.pointer (some ⟨FB, 3, none⟩)), .val (.slice ba y.body.length bc)] rfl (by kernel_rfl) (by kernel_rfl) (by kernel_rfl) (by kernel_rfl) ?_
     simp only [List.take_succ_cons, List.take_zero]
     repeat (refine ly_val (x := _) rfl ?_ ?_ (fun w => World.grownBy.refl _ _) ?_ ?_; (· kernel_rfl); (· exact ⟨by kernel_rfl, rfl⟩); (· intro W gg; have g9 : W6.grownBy W none := grown_trans (grown_drew (World.grownBy.refl _ none)) gg; simp [go_sem, (HX.out W g9).1, (HX.out W g9).2.1, (HX.out W g9).2.2.1]; done); simp only [Act.put, List.setIfInBounds_toArray, List.set_cons_succ, List.set_cons_zero])
     refine ly_prop (f := 44) (args := #[.agg #[.slice a1 p.types.length k1, .slice va p.types.length vc], .slice (some ⟨fb, fo, none⟩) m k2, .int .i64 (j : Int)]) rfl (by kernel_rfl) ⟨by kernel_rfl, rfl⟩ ?_ (fun W g => by simp [go_sem]) ?_ ?_
     ·intro v W W9 h9 hg9
      obtain ⟨SB, h1, h2, h3⟩ := h9
      exact ⟨SB, h1, h2, h3.grow hg9⟩
     ·intro W gg _
      have g9 : wr.grownBy W none := grown_trans HG6.out (grown_trans (grown_drew (World.grownBy.refl _ none)) gg)
      refine (HWi.out W g9).mono fun e w' h9 => ?_
      obtain ⟨v, h1, h2, SB, h3, h4, h5⟩ := h9
      have hsz : W6.heap.size ≤ W.heap.size := (grown_trans (grown_drew (World.grownBy.refl W6 none)) gg).size
      exact ⟨v, h1, h2, SB, h3, by omega, h5⟩
     intro v
     simp only [Act.put, List.setIfInBounds_toArray, List.set_cons_succ, List.set_cons_zero]
     repeat (refine ly_val (x := _) rfl ?_ ?_ (fun w => World.grownBy.refl _ _) ?_ ?_; (· kernel_rfl); (· exact ⟨by kernel_rfl, rfl⟩); (· intro W gg; have g9 : W6.grownBy W none := grown_trans (grown_drew (World.grownBy.refl _ none)) gg; simp [go_sem, (HX.out W g9).2.2.2]; done); simp only [Act.put, List.setIfInBounds_toArray, List.set_cons_succ, List.set_cons_zero])
     refine ly_end fun W8 g8 hh => ?_
     obtain ⟨SB, hv, hs, hx8⟩ := hh (4, fun w9 => ∃ SB, v = .pointer (some ⟨SB, 0, none⟩) ∧ W6.heap.size ≤ SB ∧ Sx N w9 SB { Ck.of p with f := y } ⟨a1, k1, va, vc, some ⟨fb, fo, none⟩, k2, la, lc, ra, rc, ba, bc⟩ 0 0 0) (by simp)
     subst hv
     have HG8 : Hid (W6.grownBy W8 none) := grown_trans (grown_drew (World.grownBy.refl _ none)) g8
     have HC := HSt.out W8 SB (grown_trans HG6.out HG8.out) hx8
     have HC2 : Hid (Calls Tryz.prog 59 #[.pointer (some ⟨SB, 0, none⟩), .slice ba y.body.length bc] W8 fun e w' => e = ckE (fun _ => Value.tuple #[]) S ∧ W6.grownBy w' none) := HC.mono fun e w' h9 => ⟨h9.1, ((Ch.of HG8.out).trans h9.2).nil (by simp; omega)⟩
     clear hh hx8 HC g8 HSt
     simp only [List.drop_succ_cons, List.drop_zero]
     cases S with
     | error er =>
      simp only [ckE] at HC2
      go_wp2_with (go_at_call 59; refine HC2.out.mono ?_; rintro e w9 ⟨rfl, hg9⟩; have HG9 : Hid (W6.grownBy w9 none) := hg9; clear hg9)
      exact ⟨rfl, TakeE.err (grown_trans HT.out.g (grown_trans HG6.out HG9.out)) (by rw [HG0.out.tp, HHok.out]; show Ck.bodies _ _ = _; rw [HYd2.out]; rfl)⟩
     | ok u =>
      obtain ⟨⟩ := u
      simp only [ckE] at HC2
      cases z with
      | false =>
       go_wp2_with (first | (go_at_call 42; refine (HM.out _ _ _).mono ?_; rintro e w9 ⟨rfl, hw9⟩; rw [hw9]; clear hw9 w9; simp only [cond_false]) | (go_at_call 59; refine HC2.out.mono ?_; rintro e w9 ⟨rfl, hg9⟩; have HG9 : Hid (W6.grownBy w9 none) := hg9; have y3 := (HX.out w9 hg9).2.2.2; clear hg9) | (go_at_call 60; refine (HEd.out _ (grown_trans HG6.out HG9.out)).mono ?_; rintro e w10 ⟨rfl, hg10⟩; have HG10 : Hid (W6.grownBy w10 none) := grown_trans HG9.out hg10; clear hg10))
       exact ⟨rfl, TakeE.err (grown_trans HT.out.g (grown_trans HG6.out HG10.out)) (by rw [HG0.out.tp, HHok.out]; show Ck.bodies _ _ = _; rw [HYd2.out]; rfl)⟩
      | true =>
       go_wp2_with (first | (go_at_call 42; refine (HM.out _ _ _).mono ?_; rintro e w9 ⟨rfl, hw9⟩; rw [hw9]; clear hw9 w9; simp only [cond_true]) | (go_at_call 59; refine HC2.out.mono ?_; rintro e w9 ⟨rfl, hg9⟩; have HG9 : Hid (W6.grownBy w9 none) := hg9; have y3 := (HX.out w9 hg9).2.2.2; clear hg9) | (go_at_call 60; refine (HEd.out _ (grown_trans HG6.out HG9.out)).mono ?_; rintro e w10 ⟨rfl, hg10⟩; have HG10 : Hid (W6.grownBy w10 none) := grown_trans HG9.out hg10; clear hg10))
       go_roundw
       case rel => exact ⟨j + 1, by go_num, by omega, by rw [HYt2.out]; rfl, HT.out.grow (grown_trans HG6.out HG10.out)⟩
       case measure => simp [intOf]; omega
    ·obtain rfl : m = j := by omega
     have HBok : Hid (Ck.takeP p = .ok ()) := by
      have h9 := HH.out
      rw [← HMm.out, List.take_length] at h9
      show _ = _
      rw [HG0.out.tp, HHok.out]
      exact h9
     have t0 := hT.tb.cell (i := 0) rfl
     have t1 := hT.tb.cell (i := 1) rfl
     have f0 := hT.rb.frozen 0
     have f1 := hT.rb.frozen 1
     have s0 := hT.rb.cell (i := 0) rfl
     have s1 := hT.rb.cell (i := 1) rfl
     have hk7 := (hT.rb.set 0 (.slice a1 p.types.length k1)).set 1 (.slice va p.types.length vc)
     have r0 := hk7.cell (i := 0) rfl
     have r1 := hk7.cell (i := 1) rfl
     have hC7 : Ch wr ((wr.setCell ⟨PB + 1, 0, none⟩ (.slice a1 p.types.length k1)).setCell ⟨PB + 1, 1, none⟩ (.slice va p.types.length vc)) [PB + 1] := (Ch.one (grown_set _ _ _ _) (by simp)).trans (Ch.one (grown_set _ _ _ _) (by simp))
     have HC7 : Hid (Ch wr ((wr.setCell ⟨PB + 1, 0, none⟩ (.slice a1 p.types.length k1)).setCell ⟨PB + 1, 1, none⟩ (.slice va p.types.length vc)) [PB + 1]) := hC7
     have HE7 : Hid (TakeE w p a1 k1 (.returned (.agg #[.slice a1 p.types.length k1, .slice va p.types.length vc])) ((wr.setCell ⟨PB + 1, 0, none⟩ (.slice a1 p.types.length k1)).setCell ⟨PB + 1, 1, none⟩ (.slice va p.types.length vc))) := by
      refine ⟨((Ch.of (l := [PB + 1]) hT.g).trans hC7).nil (by have := HPw.out; simp; omega), ?_⟩
      rw [HBok.out]
      refine ⟨va, vc, N, rfl, HN.out, by have := hC7.size; have := hT.nw; omega, ⟨(hT.ty.ch hC7 (by simp)).up (by have := HN.out; have := HPw.out; omega), ?_, hT.t.le, hT.t.sm⟩⟩
      rcases hT.vb with h0 | ⟨b, e1, e2⟩
      ·exact .inl h0
      ·rcases hT.t.v with h0 | ⟨b', e3, e4, e5⟩
       ·exact .inl h0
       ·rw [e1] at e3
        cases e3
        exact .inr ⟨b, e1, e4, fun i hi => hC7.cell (e5 i hi) (by simp; omega)⟩
     clear hk7 hC7 hT
     go_wp2
     refine ⟨rfl, .agg #[.slice a1 p.types.length k1, .slice va p.types.length vc], ?_, ?_⟩
     ·simp [results, show Tryz.func29.results = #[.cell 2 74] from rfl, go_sem, r0, r1]
     ·exact HE7.out
end Go.Proofs.YtpcgkggpmipiaaaGreat
