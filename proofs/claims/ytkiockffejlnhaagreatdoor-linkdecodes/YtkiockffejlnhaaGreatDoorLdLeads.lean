/- leads: does an instruction that was read lead where it should? -/
import Derived.Test.YtkiockffejlnhaaGreatDoorG23
import Derived.Test.YtkiockffejlnhaaGreatDoorLkRa
namespace Go.Proofs.YtkiockffejlnhaaGreatDoor
open Go.RowKit
set_option linter.unusedVariables false
structure Ld4 (w W : World) (B : Nat) (iv : Array Value) (pv : Array Value) (x v : InV) : Prop where
  g : w.grownBy W none
  sz : W.heap.size = B + 4
  hB : B = w.heap.size
  im : ∀ j u, iv[j]? = some u → W.cell? ⟨B, j, none⟩ = some u
  pc : ∀ j u, pv[j]? = some u → W.cell? ⟨B + 1, j, none⟩ = some u
  x : InstAt W (B + 2) x
  v : InstAt W (B + 3) v
theorem Ld4.mk' (w : World) (iv pv : Array Value) (x v : InV) (t5 t3 : TypeId) : Ld4 w ((((w.alloc (.cells iv t5)).alloc (.cells pv t3)).alloc (.cells #[.int .i64 x.op, .int .i64 x.a, .int .i64 x.b, .int .i64 x.c, .int .i64 x.k, .int .i64 x.sub, .int .i64 x.scale, .int .i64 x.imm, .int .i64 x.label] 50)).alloc (.cells #[.int .i64 v.op, .int .i64 v.a, .int .i64 v.b, .int .i64 v.c, .int .i64 v.k, .int .i64 v.sub, .int .i64 v.scale, .int .i64 v.imm, .int .i64 v.label] 50)) w.heap.size iv pv x v := by
  have g3 : ∀ W : World, ∀ o, W.grownBy (W.alloc o) none := fun W o => World.grownBy_alloc _ _ _
  refine ⟨ga (ga (ga (g3 _ _) _) _) _, by simp, rfl, fun j u hu => ?_, fun j u hu => ?_, ?_, ?_⟩
  · exact (ga (ga (g3 _ _) _) _).cell ((cells_new _ _ rfl _).trans hu) (by simp)
  · exact (ga (g3 _ _) _).cell ((cells_new _ _ (by simp) _).trans hu) (by simp)
  · have := (InstAt.new ((w.alloc (.cells iv t5)).alloc (.cells pv t3)) x).kept (g3 _ (.cells #[.int .i64 v.op, .int .i64 v.a, .int .i64 v.b, .int .i64 v.c, .int .i64 v.k, .int .i64 v.sub, .int .i64 v.scale, .int .i64 v.imm, .int .i64 v.label] 50)) (by simp)
    simpa using this
  · have := InstAt.new (((w.alloc (.cells iv t5)).alloc (.cells pv t3)).alloc (.cells #[.int .i64 x.op, .int .i64 x.a, .int .i64 x.b, .int .i64 x.c, .int .i64 x.k, .int .i64 x.sub, .int .i64 x.scale, .int .i64 x.imm, .int .i64 x.label] 50)) v
    simpa using this
set_option maxRecDepth 100000 in
set_option maxHeartbeats 8000000 in
theorem leads_n {N : Nat} {w : World} {P : Lk.PcV} {A : PcA} (hN : N ≤ w.heap.size) (hins : InsIn N w A.ia P.n A.ic P.I) (hmk : NumIn N w A.ma P.m A.mc P.M) {j : Nat} (hj : j < P.n) {pa : Option Addr} {pc : Nat} {PL : Nat → Int} (hpl : NumIn N w pa (P.n + 1) pc PL)
    (hPL : ∀ q, q ≤ P.n → 0 ≤ PL q ∧ PL q ≤ 1048576) {t en : Int} {cv dv fv : Value} {v : InV} (hv : P.I j = v) (h1 : Lk.jmpB v.op = false) (h2 : v.op ≠ 23) :
    Calls Tryz.prog 18 #[.agg #[.int .i64 t, cv, dv, .int .i64 en, fv], .agg #[.slice A.ia P.n A.ic, .slice A.ma P.m A.mc, .int .i64 A.out], .int .i64 j, .agg #[.int .i64 v.op, .int .i64 v.a, .int .i64 v.b, .int .i64 v.c, .int .i64 v.k, .int .i64 v.sub, .int .i64 v.scale, .int .i64 v.imm, .int .i64 v.label], .slice pa ((P.n + 1 : Nat) : Nat) pc] w fun e w' => e = .returned (.bool true) ∧ w.grownBy w' none := by
  have hj' : (j : Int) < P.n := by omega
  obtain ⟨ib, io, hia, hib, hin, hrg⟩ := hins.at hj
  have hle := hins.le
  have hmx := hins.max
  have hle1 := hmk.le
  have hmx1 := hmk.max
  have hle2 := hpl.le
  have hmx2 := hpl.max
  unfold maxLen at hmx hmx1 hmx2
  have HJ : Hid (∀ op W, Calls Tryz.prog 30 #[.int .i64 op] W fun e w' => e = .returned (.bool (Lk.jmpB op)) ∧ w' = W) := rjumps_any
  rw [hv] at hin
  have h23 : (v.op == 23) = false := by simpa using h2
  obtain ⟨ia, ic, ma, mc, out⟩ := A
  simp only at hia hle hmx hle1 hmx1 ⊢
  have HX : Hid (Ld4 w _ w.heap.size #[.int .i64 t, cv, dv, .int .i64 en, fv] #[.slice ia P.n ic, .slice ma P.m mc, .int .i64 out] v v) := Ld4.mk' w #[.int .i64 t, cv, dv, .int .i64 en, fv] #[.slice ia P.n ic, .slice ma P.m mc, .int .i64 out] v v 32 48
  have g3 : ∀ o1 o2 o3, w.grownBy (((w.alloc o1).alloc o2).alloc o3) none := fun o1 o2 o3 => ga (ga (World.grownBy_alloc _ _ _) _) _
  have k0 := fun o1 o2 o3 => (g3 o1 o2 o3).cell hin.c0 (by simp)
  have k1 := fun o1 o2 o3 => (g3 o1 o2 o3).cell hin.c1 (by simp)
  have k2 := fun o1 o2 o3 => (g3 o1 o2 o3).cell hin.c2 (by simp)
  have k3 := fun o1 o2 o3 => (g3 o1 o2 o3).cell hin.c3 (by simp)
  have k4 := fun o1 o2 o3 => (g3 o1 o2 o3).cell hin.c4 (by simp)
  have k5 := fun o1 o2 o3 => (g3 o1 o2 o3).cell hin.c5 (by simp)
  have k6 := fun o1 o2 o3 => (g3 o1 o2 o3).cell hin.c6 (by simp)
  have k7 := fun o1 o2 o3 => (g3 o1 o2 o3).cell hin.c7 (by simp)
  have k8 := fun o1 o2 o3 => (g3 o1 o2 o3).cell hin.c8 (by simp)
  subst hia
  clear hins hmk hpl hin hPL g3 hv
  generalize P.n = n at *
  generalize P.m = m at *
  go_enter Tryz.func18, Tryz.ntmps18
  go_wp2_with (go_at_call 30; refine (HJ.out _ _).mono ?_; rintro e0 w0 ⟨rfl, rfl⟩)
  go_ret
  exact ⟨rfl, HX.out.g⟩
set_option maxRecDepth 100000 in
set_option maxHeartbeats 8000000 in
theorem leads_j {N : Nat} {w : World} {P : Lk.PcV} {A : PcA} (hN : N ≤ w.heap.size) (hins : InsIn N w A.ia P.n A.ic P.I) (hmk : NumIn N w A.ma P.m A.mc P.M) {j : Nat} (hj : j < P.n) {pa : Option Addr} {pc : Nat} {PL : Nat → Int} (hpl : NumIn N w pa (P.n + 1) pc PL)
    (hPL : ∀ q, q ≤ P.n → 0 ≤ PL q ∧ PL q ≤ 1048576) {t en : Int} {cv dv fv : Value} {v : InV} (hv : P.I j = v) (h1 : Lk.jmpB v.op = true) (h0 : v.imm = 0) {L M : Nat} (hL : v.label = L) (hLm : L < P.m) (hM : P.M L = M) (hMn : M ≤ P.n) {X : Int} (hX : PL (j + 1) + X = PL M) (ht : t = 1 ∨ t = 2) (hf : t = 2 → 3 < PL (j + 1) - PL j → X < -128 ∨ 128 ≤ X) :
    Calls Tryz.prog 18 #[.agg #[.int .i64 t, cv, dv, .int .i64 en, fv], .agg #[.slice A.ia P.n A.ic, .slice A.ma P.m A.mc, .int .i64 A.out], .int .i64 j, .agg #[.int .i64 v.op, .int .i64 v.a, .int .i64 v.b, .int .i64 v.c, .int .i64 v.k, .int .i64 v.sub, .int .i64 v.scale, .int .i64 X, .int .i64 0], .slice pa ((P.n + 1 : Nat) : Nat) pc] w fun e w' => e = .returned (.bool true) ∧ w.grownBy w' none := by
  have hj' : (j : Int) < P.n := by omega
  obtain ⟨ib, io, hia, hib, hin, hrg⟩ := hins.at hj
  have hle := hins.le
  have hmx := hins.max
  have hle1 := hmk.le
  have hmx1 := hmk.max
  have hle2 := hpl.le
  have hmx2 := hpl.max
  unfold maxLen at hmx hmx1 hmx2
  have HJ : Hid (∀ op W, Calls Tryz.prog 30 #[.int .i64 op] W fun e w' => e = .returned (.bool (Lk.jmpB op)) ∧ w' = W) := rjumps_any
  have b1 := hPL (j + 1) (by omega)
  have b2 := hPL j (by omega)
  have b3 := hPL M hMn
  obtain ⟨mb, mo, hma, hmb, hmc⟩ := hmk.at hLm
  obtain ⟨pb, po, hpa, hpb, hp1⟩ := hpl.at (i := j + 1) (by omega)
  obtain ⟨pb', po', hpa', _, hp0⟩ := hpl.at (i := j) (by omega)
  obtain ⟨pb2, po2, hpa2, _, hpM⟩ := hpl.at (i := M) (by omega)
  rw [hpa] at hpa' hpa2
  injection hpa' with hpa'
  injection hpa' with e1 e2
  subst e1 e2
  injection hpa2 with hpa2
  injection hpa2 with e1 e2
  subst e1 e2
  rw [hM] at hmc
  rw [hv] at hin
  obtain ⟨op, va, vb, vc, vk, vsub, vsc, imm, lb⟩ := v
  simp only at h0 hL h1
  subst h0 hL
  have h23 : (op == 23) = false := by rw [Lk.jmpB_iff] at h1; simp; omega
  obtain ⟨ia, ic, ma, mc, out⟩ := A
  simp only at hia hma hle hmx hle1 hmx1 ⊢
  subst hia hma hpa
  have g3 : ∀ o1 o2 o3, w.grownBy (((w.alloc o1).alloc o2).alloc o3) none := fun o1 o2 o3 => ga (ga (World.grownBy_alloc _ _ _) _) _
  have k0 := fun o1 o2 o3 => (g3 o1 o2 o3).cell hin.c0 (by simp)
  have k1 := fun o1 o2 o3 => (g3 o1 o2 o3).cell hin.c1 (by simp)
  have k2 := fun o1 o2 o3 => (g3 o1 o2 o3).cell hin.c2 (by simp)
  have k3 := fun o1 o2 o3 => (g3 o1 o2 o3).cell hin.c3 (by simp)
  have k4 := fun o1 o2 o3 => (g3 o1 o2 o3).cell hin.c4 (by simp)
  have k5 := fun o1 o2 o3 => (g3 o1 o2 o3).cell hin.c5 (by simp)
  have k6 := fun o1 o2 o3 => (g3 o1 o2 o3).cell hin.c6 (by simp)
  have k7 := fun o1 o2 o3 => (g3 o1 o2 o3).cell hin.c7 (by simp)
  have k8 := fun o1 o2 o3 => (g3 o1 o2 o3).cell hin.c8 (by simp)
  have hLm' : (L : Int) < P.m := by omega
  have hMn' : (M : Int) < ((P.n + 1 : Nat) : Int) := by omega
  have hj1 : (j : Int) + 1 < ((P.n + 1 : Nat) : Int) := by omega
  have hj2 : (j : Int) < ((P.n + 1 : Nat) : Int) := by omega
  have hj3 : ((j : Int) + 1).toNat = j + 1 := by omega
  have hMz : (0 : Int) ≤ M := by omega
  have hLz : (0 : Int) ≤ L := by omega
  have HPq : Hid (∀ W, w.grownBy W none → W.cell? ⟨pb, po + (j + 1), none⟩ = some (.int .i64 (PL (j + 1))) ∧ W.cell? ⟨pb, po + j, none⟩ = some (.int .i64 (PL j)) ∧ W.cell? ⟨pb, po + M, none⟩ = some (.int .i64 (PL M)) ∧ W.cell? ⟨mb, mo + L, none⟩ = some (.int .i64 (M : Int))) := fun W g => ⟨g.cell hp1 (by simp), g.cell hp0 (by simp), g.cell hpM (by simp), g.cell hmc (by simp)⟩
  clear hins hmk hpl hin hPL g3 hv hp1 hp0 hpM hmc hrg hM hN hib hmb hpb
  generalize P.n + 1 = n1 at *
  generalize P.n = n at *
  generalize P.m = m at *
  generalize PL (j + 1) = Pj1 at *
  generalize PL j = Pj at *
  generalize PL M = PM at *
  have hne : (Pj1 + X != PM) = false := by simp [hX]
  have hw1 : IntKind.i64.wrap (Pj1 + X) = Pj1 + X := by rw [IntKind.wrap_i64]; omega
  have hw2 : IntKind.i64.wrap (Pj1 - Pj) = Pj1 - Pj := by rw [IntKind.wrap_i64]; omega
  have hw3 : IntKind.i64.wrap ((j : Int) + 1) = (j : Int) + 1 := by rw [IntKind.wrap_i64]; omega
  have HXe : Hid (Pj1 + X = PM) := hX
  clear hX
  obtain ⟨W4, hW4⟩ : ∃ W4, W4 = ((((w.alloc (.cells #[.int .i64 t, cv, dv, .int .i64 en, fv] 32)).alloc (.cells #[.slice (some ⟨ib, io, none⟩) n ic, .slice (some ⟨mb, mo, none⟩) m mc, .int .i64 out] 48)).alloc (.cells #[.int .i64 op, .int .i64 va, .int .i64 vb, .int .i64 vc, .int .i64 vk, .int .i64 vsub, .int .i64 vsc, .int .i64 X, .int .i64 0] 50)).alloc (.cells #[.int .i64 op, .int .i64 va, .int .i64 vb, .int .i64 vc, .int .i64 vk, .int .i64 vsub, .int .i64 vsc, .int .i64 0, .int .i64 (L : Int)] 50)) := ⟨_, rfl⟩
  have X4 : Ld4 w W4 w.heap.size #[.int .i64 t, cv, dv, .int .i64 en, fv] #[.slice (some ⟨ib, io, none⟩) n ic, .slice (some ⟨mb, mo, none⟩) m mc, .int .i64 out] ⟨op, va, vb, vc, vk, vsub, vsc, X, 0⟩ ⟨op, va, vb, vc, vk, vsub, vsc, 0, L⟩ := by rw [hW4]; exact Ld4.mk' w _ _ ⟨op, va, vb, vc, vk, vsub, vsc, X, 0⟩ ⟨op, va, vb, vc, vk, vsub, vsc, 0, L⟩ _ _
  have HW4 : Hid (W4 = ((((w.alloc (.cells #[.int .i64 t, cv, dv, .int .i64 en, fv] 32)).alloc (.cells #[.slice (some ⟨ib, io, none⟩) n ic, .slice (some ⟨mb, mo, none⟩) m mc, .int .i64 out] 48)).alloc (.cells #[.int .i64 op, .int .i64 va, .int .i64 vb, .int .i64 vc, .int .i64 vk, .int .i64 vsub, .int .i64 vsc, .int .i64 X, .int .i64 0] 50)).alloc (.cells #[.int .i64 op, .int .i64 va, .int .i64 vb, .int .i64 vc, .int .i64 vk, .int .i64 vsub, .int .i64 vsc, .int .i64 0, .int .i64 (L : Int)] 50))) := hW4
  obtain ⟨p1, p0, pM, mk⟩ := HPq.out W4 X4.g
  have im0 := X4.im 0 _ rfl
  have pc1 := X4.pc 1 _ rfl
  have x7 := X4.x.c7
  have v8 := X4.v.c8
  have HX4 : Hid (Ld4 w W4 w.heap.size #[.int .i64 t, cv, dv, .int .i64 en, fv] #[.slice (some ⟨ib, io, none⟩) n ic, .slice (some ⟨mb, mo, none⟩) m mc, .int .i64 out] ⟨op, va, vb, vc, vk, vsub, vsc, X, 0⟩ ⟨op, va, vb, vc, vk, vsub, vsc, 0, L⟩) := X4
  clear X4 hW4 HPq
  have hcs : t = 1 ∨ (t = 2 ∧ decide (3 < Pj1 - Pj) = false) ∨ (t = 2 ∧ decide (3 < Pj1 - Pj) = true ∧ decide (-128 ≤ X) = false) ∨ (t = 2 ∧ decide (3 < Pj1 - Pj) = true ∧ decide (-128 ≤ X) = true ∧ decide (X < 128) = false) := by
    rcases ht with h | h
    · exact .inl h
    · right
      by_cases d : 3 < Pj1 - Pj
      · have := hf h d
        by_cases d2 : -128 ≤ X
        · exact .inr (.inr ⟨h, by simpa using d, by simpa using d2, by simp; omega⟩)
        · exact .inr (.inl ⟨h, by simpa using d, by simp; omega⟩)
      · exact .inl ⟨h, by simp; omega⟩
  clear ht hf
  rcases hcs with rfl | ⟨rfl, d1⟩ | ⟨rfl, d1, d2⟩ | ⟨rfl, d1, d2, d3⟩
  all_goals (
    go_enter Tryz.func18, Tryz.ntmps18
    go_wp2_with (go_at_call 30; refine (HJ.out _ _).mono ?_; rintro e0 w0 ⟨rfl, rfl⟩; rw [h1])
    rw [← HW4.out]
    go_quiet (fail)
    obtain ⟨W5, hW5⟩ : ∃ W5, W5 = W4.drewN nq := ⟨_, rfl⟩
    have hg5 : w.grownBy W5 none := by rw [hW5]; exact grown_drewN HX4.out.g _
    have X5 : InstAt W5 (w.heap.size + 2) ⟨op, va, vb, vc, vk, vsub, vsc, X, 0⟩ := by rw [hW5]; exact HX4.out.x.drewN _
    have V5 : InstAt W5 (w.heap.size + 3) ⟨op, va, vb, vc, vk, vsub, vsc, 0, L⟩ := by rw [hW5]; exact HX4.out.v.drewN _
    rw [← hW5]
    clear hW5 p1 p0 pM mk im0 pc1 x7 v8
    obtain ⟨xa, xb, xc, xd, xe, xf, xg, xh, xi, xz⟩ := X5
    obtain ⟨ya, yb, yc, yd, ye, yf, yg, yh, yi, yz⟩ := V5
    have xz7 := xz 7
    have yz8 := yz 8
    clear xz yz
    have HG5 : Hid (w.grownBy W5 none) := hg5
    clear hg5
    go_wp2_with fail
    go_ret
    exact ⟨rfl, ((Ch.of HG5.out).trans ((Ch.one (l := [w.heap.size + 2, w.heap.size + 3]) (grown_set _ _ _ _) (by simp)).trans (Ch.one (grown_set _ _ _ _) (by simp)))).nil (by simp)⟩)
set_option maxRecDepth 100000 in
set_option maxHeartbeats 8000000 in
theorem leads_c {N : Nat} {w : World} {P : Lk.PcV} {A : PcA} (hN : N ≤ w.heap.size) (hins : InsIn N w A.ia P.n A.ic P.I) (hmk : NumIn N w A.ma P.m A.mc P.M) {j : Nat} (hj : j < P.n) {pa : Option Addr} {pc : Nat} {PL : Nat → Int} (hpl : NumIn N w pa (P.n + 1) pc PL)
    (hPL : ∀ q, q ≤ P.n → 0 ≤ PL q ∧ PL q ≤ 1048576) {t en : Int} {cv dv fv : Value} {v : InV} (hv : P.I j = v) (h23 : v.op = 23) (h0 : v.imm = 0) {L K TF : Nat} (hL : v.label = L) (hLK : L < K) (hfv : fv = .slice (some ⟨TF, 0, none⟩) K K) {FN : Int} (hFc : w.cell? ⟨TF, L, none⟩ = some (.int .i64 FN)) (hFN : 0 ≤ FN ∧ FN ≤ 1048576) {X : Int} (hX : PL (j + 1) + X = FN) :
    Calls Tryz.prog 18 #[.agg #[.int .i64 t, cv, dv, .int .i64 en, fv], .agg #[.slice A.ia P.n A.ic, .slice A.ma P.m A.mc, .int .i64 A.out], .int .i64 j, .agg #[.int .i64 v.op, .int .i64 v.a, .int .i64 v.b, .int .i64 v.c, .int .i64 v.k, .int .i64 v.sub, .int .i64 v.scale, .int .i64 X, .int .i64 0], .slice pa ((P.n + 1 : Nat) : Nat) pc] w fun e w' => e = .returned (.bool true) ∧ w.grownBy w' none := by
  have hj' : (j : Int) < P.n := by omega
  obtain ⟨ib, io, hia, hib, hin, hrg⟩ := hins.at hj
  have hle := hins.le
  have hmx := hins.max
  have hle1 := hmk.le
  have hmx1 := hmk.max
  have hle2 := hpl.le
  have hmx2 := hpl.max
  unfold maxLen at hmx hmx1 hmx2
  have HJ : Hid (∀ op W, Calls Tryz.prog 30 #[.int .i64 op] W fun e w' => e = .returned (.bool (Lk.jmpB op)) ∧ w' = W) := rjumps_any
  have b1 := hPL (j + 1) (by omega)
  obtain ⟨pb, po, hpa, hpb, hp1⟩ := hpl.at (i := j + 1) (by omega)
  rw [hv] at hin
  obtain ⟨op, va, vb, vc, vk, vsub, vsc, imm, lb⟩ := v
  simp only at h0 hL h23
  subst h0 hL h23 hfv
  have h1 : Lk.jmpB 23 = false := by decide
  obtain ⟨ia, ic, ma, mc, out⟩ := A
  simp only at hia hle hmx hle1 hmx1 ⊢
  subst hia hpa
  have g3 : ∀ o1 o2 o3, w.grownBy (((w.alloc o1).alloc o2).alloc o3) none := fun o1 o2 o3 => ga (ga (World.grownBy_alloc _ _ _) _) _
  have k0 := fun o1 o2 o3 => (g3 o1 o2 o3).cell hin.c0 (by simp)
  have k1 := fun o1 o2 o3 => (g3 o1 o2 o3).cell hin.c1 (by simp)
  have k2 := fun o1 o2 o3 => (g3 o1 o2 o3).cell hin.c2 (by simp)
  have k3 := fun o1 o2 o3 => (g3 o1 o2 o3).cell hin.c3 (by simp)
  have k4 := fun o1 o2 o3 => (g3 o1 o2 o3).cell hin.c4 (by simp)
  have k5 := fun o1 o2 o3 => (g3 o1 o2 o3).cell hin.c5 (by simp)
  have k6 := fun o1 o2 o3 => (g3 o1 o2 o3).cell hin.c6 (by simp)
  have k7 := fun o1 o2 o3 => (g3 o1 o2 o3).cell hin.c7 (by simp)
  have k8 := fun o1 o2 o3 => (g3 o1 o2 o3).cell hin.c8 (by simp)
  have hLm' : (L : Int) < K := by omega
  have hj1 : (j : Int) + 1 < ((P.n + 1 : Nat) : Int) := by omega
  have hj3 : ((j : Int) + 1).toNat = j + 1 := by omega
  have hLz : (0 : Int) ≤ L := by omega
  have HPq : Hid (∀ W, w.grownBy W none → W.cell? ⟨pb, po + (j + 1), none⟩ = some (.int .i64 (PL (j + 1))) ∧ W.cell? ⟨TF, L, none⟩ = some (.int .i64 FN)) := fun W g => ⟨g.cell hp1 (by simp), g.cell hFc (by simp)⟩
  clear hins hmk hpl hin hPL g3 hv hp1 hFc hrg hN hib hpb
  generalize P.n + 1 = n1 at *
  generalize P.n = n at *
  generalize P.m = m at *
  generalize PL (j + 1) = Pj1 at *
  have hne : (Pj1 + X != FN) = false := by simp [hX]
  have hw1 : IntKind.i64.wrap (Pj1 + X) = Pj1 + X := by rw [IntKind.wrap_i64]; omega
  have hw3 : IntKind.i64.wrap ((j : Int) + 1) = (j : Int) + 1 := by rw [IntKind.wrap_i64]; omega
  have HXe : Hid (Pj1 + X = FN) := hX
  clear hX
  obtain ⟨W4, hW4⟩ : ∃ W4, W4 = ((((w.alloc (.cells #[.int .i64 t, cv, dv, .int .i64 en, .slice (some ⟨TF, 0, none⟩) K K] 32)).alloc (.cells #[.slice (some ⟨ib, io, none⟩) n ic, .slice ma m mc, .int .i64 out] 48)).alloc (.cells #[.int .i64 23, .int .i64 va, .int .i64 vb, .int .i64 vc, .int .i64 vk, .int .i64 vsub, .int .i64 vsc, .int .i64 X, .int .i64 0] 50)).alloc (.cells #[.int .i64 23, .int .i64 va, .int .i64 vb, .int .i64 vc, .int .i64 vk, .int .i64 vsub, .int .i64 vsc, .int .i64 0, .int .i64 (L : Int)] 50)) := ⟨_, rfl⟩
  have X4 : Ld4 w W4 w.heap.size #[.int .i64 t, cv, dv, .int .i64 en, .slice (some ⟨TF, 0, none⟩) K K] #[.slice (some ⟨ib, io, none⟩) n ic, .slice ma m mc, .int .i64 out] ⟨23, va, vb, vc, vk, vsub, vsc, X, 0⟩ ⟨23, va, vb, vc, vk, vsub, vsc, 0, L⟩ := by rw [hW4]; exact Ld4.mk' w _ _ ⟨23, va, vb, vc, vk, vsub, vsc, X, 0⟩ ⟨23, va, vb, vc, vk, vsub, vsc, 0, L⟩ _ _
  have HW4 : Hid (W4 = ((((w.alloc (.cells #[.int .i64 t, cv, dv, .int .i64 en, .slice (some ⟨TF, 0, none⟩) K K] 32)).alloc (.cells #[.slice (some ⟨ib, io, none⟩) n ic, .slice ma m mc, .int .i64 out] 48)).alloc (.cells #[.int .i64 23, .int .i64 va, .int .i64 vb, .int .i64 vc, .int .i64 vk, .int .i64 vsub, .int .i64 vsc, .int .i64 X, .int .i64 0] 50)).alloc (.cells #[.int .i64 23, .int .i64 va, .int .i64 vb, .int .i64 vc, .int .i64 vk, .int .i64 vsub, .int .i64 vsc, .int .i64 0, .int .i64 (L : Int)] 50))) := hW4
  obtain ⟨p1, pF⟩ := HPq.out W4 X4.g
  have im4 := X4.im 4 _ rfl
  have x7 := X4.x.c7
  have v8 := X4.v.c8
  have v0 := X4.v.c0
  have HX4 : Hid (Ld4 w W4 w.heap.size #[.int .i64 t, cv, dv, .int .i64 en, .slice (some ⟨TF, 0, none⟩) K K] #[.slice (some ⟨ib, io, none⟩) n ic, .slice ma m mc, .int .i64 out] ⟨23, va, vb, vc, vk, vsub, vsc, X, 0⟩ ⟨23, va, vb, vc, vk, vsub, vsc, 0, L⟩) := X4
  clear X4 hW4 HPq
  go_enter Tryz.func18, Tryz.ntmps18
  go_wp2_with (go_at_call 30; refine (HJ.out _ _).mono ?_; rintro e0 w0 ⟨rfl, rfl⟩; rw [h1])
  rw [← HW4.out]
  go_quiet (fail)
  obtain ⟨W5, hW5⟩ : ∃ W5, W5 = W4.drewN nq := ⟨_, rfl⟩
  have hg5 : w.grownBy W5 none := by rw [hW5]; exact grown_drewN HX4.out.g _
  have X5 : InstAt W5 (w.heap.size + 2) ⟨23, va, vb, vc, vk, vsub, vsc, X, 0⟩ := by rw [hW5]; exact HX4.out.x.drewN _
  have V5 : InstAt W5 (w.heap.size + 3) ⟨23, va, vb, vc, vk, vsub, vsc, 0, L⟩ := by rw [hW5]; exact HX4.out.v.drewN _
  rw [← hW5]
  clear hW5 p1 pF im4 x7 v8 v0
  obtain ⟨xa, xb, xc, xd, xe, xf, xg, xh, xi, xz⟩ := X5
  obtain ⟨ya, yb, yc, yd, ye, yf, yg, yh, yi, yz⟩ := V5
  have xz7 := xz 7
  have yz8 := yz 8
  clear xz yz
  have HG5 : Hid (w.grownBy W5 none) := hg5
  clear hg5
  go_wp2_with fail
  go_ret
  exact ⟨rfl, ((Ch.of HG5.out).trans ((Ch.one (l := [w.heap.size + 2, w.heap.size + 3]) (grown_set _ _ _ _) (by simp)).trans (Ch.one (grown_set _ _ _ _) (by simp)))).nil (by simp)⟩
end Go.Proofs.YtkiockffejlnhaaGreatDoor
