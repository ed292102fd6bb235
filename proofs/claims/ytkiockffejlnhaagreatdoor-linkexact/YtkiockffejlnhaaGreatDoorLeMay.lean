/- gantryref6.May, whatever is asked. -/
import Derived.Test.YtkiockffejlnhaaGreatDoorG21
import Derived.Test.YtkiockffejlnhaaGreatDoorG19
import Derived.Test.YtkiockffejlnhaaGreatDoorG20
namespace Go.Proofs.YtkiockffejlnhaaGreatDoor
set_option maxRecDepth 100000
set_option maxHeartbeats 32000000
open Go.RowKit
set_option linter.unusedVariables false
def formB (t en : Int) (K : Nat) (V : Nat → Lk.PcV) : Bool := (t == 1 || t == 2) && (decide (0 < K) && (decide (K ≤ 33) && (decide (0 ≤ en) && (decide (en < K) && Lk.piecesB t K V))))
theorem formB_iff {t en : Int} {K : Nat} {V : Nat → Lk.PcV} : formB t en K V = true ↔ FormOk t en K V := by unfold formB FormOk; simp
theorem formB_no {t en : Int} {K : Nat} {V : Nat → Lk.PcV} (h : ¬ FormOk t en K V) : formB t en K V = false := by
 cases hb : formB t en K V
 ·rfl
 ·exact absurd (formB_iff.1 hb) h
theorem marks_no {P : Lk.PcV} {i : Nat} (hi : i < P.m) (h : ¬ (0 ≤ P.M i ∧ P.M i ≤ P.n)) : Lk.marksB P = false := by
 cases hb : Lk.marksB P
 ·rfl
 ·exact absurd (Lk.marksB_iff.1 hb i hi) h
theorem insts_no {t p : Int} {P : Lk.PcV} {i : Nat} (hi : i < P.n) (h : Lk.instB t P.m p (P.I i) = false) : Lk.instsB t p P = false := by
 cases hb : Lk.instsB t p P
 ·rfl
 ·rw [Lk.instsB_iff.1 hb i hi] at h; cases h
theorem may6x_n {w : World} {a : Option Addr} {K c : Nat} {t en : Int} (h1 : ¬ t = 1) (h2 : ¬ t = 2) :
  Calls Tryz.prog 11 #[.int .i64 t, .slice a K c, .int .i64 en] w fun e w' => e = .returned (.bool false) ∧ w.grownBy w' none := by
 have e1 : (t != 1) = true := by simpa using h1
 have e2 : (t != 2) = true := by simpa using h2
 go_enter Tryz.func11, Tryz.ntmps11
 go_wp2
 go_ret
 exact ⟨rfl, gr0⟩
theorem may6h_t {t : Int} (ht : t = 1 ∨ t = 2) {w : World} {a : Option Addr} {K c : Nat} {en : Int} (h : K = 0 ∨ 33 < K ∨ en < 0 ∨ (K : Int) ≤ en) :
  Calls Tryz.prog 11 #[.int .i64 t, .slice a K c, .int .i64 en] w fun e w' => e = .returned (.bool false) ∧ w.grownBy w' none := by
 have he : (t != 1) = false ∨ ((t != 1) = true ∧ (t != 2) = false) := by rcases ht with rfl | rfl <;> decide
 rcases (show K = 0 ∨ (0 < K ∧ 33 < K) ∨ (0 < K ∧ K ≤ 33 ∧ en < 0) ∨ (0 < K ∧ K ≤ 33 ∧ 0 ≤ en ∧ (K : Int) ≤ en) from by omega) with h | ⟨h0, h⟩ | ⟨h0, h1, h⟩ | ⟨h0, h1, h2, h⟩
 ·subst h
  rcases he with e1 | ⟨e1, e2⟩
  all_goals (
   go_enter Tryz.func11, Tryz.ntmps11
   go_wp2
   all_goals first | (go_ret; exact ⟨rfl, gr0⟩) | (exfalso; omega))
 ·have h' : (33 : Int) < K := by omega
  have e0 : ((K : Int) == 0) = false := by simp; omega
  rcases he with e1 | ⟨e1, e2⟩
  all_goals (
   go_enter Tryz.func11, Tryz.ntmps11
   go_wp2
   all_goals first | (go_ret; exact ⟨rfl, gr0⟩) | (exfalso; omega))
 ·have h1' : ¬ (33 : Int) < K := by omega
  have e0 : ((K : Int) == 0) = false := by simp; omega
  rcases he with e1 | ⟨e1, e2⟩
  all_goals (
   go_enter Tryz.func11, Tryz.ntmps11
   go_wp2
   all_goals first | (go_ret; exact ⟨rfl, gr0⟩) | (exfalso; omega))
 ·have h1' : ¬ (33 : Int) < K := by omega
  have h2' : ¬ en < 0 := by omega
  have e0 : ((K : Int) == 0) = false := by simp; omega
  rcases he with e1 | ⟨e1, e2⟩
  all_goals (
   go_enter Tryz.func11, Tryz.ntmps11
   go_wp2
   all_goals first | (go_ret; exact ⟨rfl, gr0⟩) | (exfalso; omega))
theorem may6x_t {t : Int} (ht : t = 1 ∨ t = 2) {w : World} {N : Nat} {a : Option Addr} {K c : Nat} {V : Nat → Lk.PcV} {A : Nat → PcA} (h : PcsIn N w a K c V A) (h0 : 0 < K) (hK : K ≤ 33) {en : Nat} (hen : en < K) :
  Calls Tryz.prog 11 #[.int .i64 t, .slice a K c, .int .i64 en] w fun e w' => e = .returned (.bool (Lk.piecesB t K V)) ∧ w.grownBy w' none := by
 have hle := h.le
 have hmx := h.max
 unfold maxLen at hmx
 have h0' : (0 : Int) < K := by omega
 have hK' : (K : Int) ≤ 33 := by omega
 have hen' : (en : Int) < K := by omega
 have HP : Hid (∀ W, w.grownBy W none → PcsIn N W a K c V A) := fun W g => h.ch (l := []) (Ch.of g) (by simp)
 have HNo : Hid (∀ k, k < K → (Lk.marksB (V k) && Lk.instsB t K (V k)) = false → Lk.piecesB t K V = false) := fun k hk hf => Lk.piecesB_no hk hf
 have HYes : Hid ((∀ k, k < K → Lk.marksB (V k) = true ∧ Lk.instsB t K (V k) = true) → Lk.piecesB t K V = true) := Lk.piecesB_iff.2
 obtain ⟨R, hR⟩ : ∃ R, R = Lk.piecesB t K V := ⟨_, rfl⟩
 rw [← hR] at HNo HYes ⊢
 clear h hR
 have he : (t != 1) = false ∨ ((t != 1) = true ∧ (t != 2) = false) := by rcases ht with rfl | rfl <;> decide
 have e0 : ((K : Int) == 0) = false := by simp; omega
 have e3 : ¬ (33 : Int) < K := by omega
 have HT := ht
 clear ht
 have ht : Hid (t = 1 ∨ t = 2) := HT
 clear HT
 rcases he with e1 | ⟨e1, e2⟩
 all_goals (
  go_enter Tryz.func11, Tryz.ntmps11
  go_wp2_with fail
  go_loopw [7] (fun ix wr => ∃ (k : Nat), ix = .int .i64 k ∧ k ≤ K ∧ (∀ j, j < k → Lk.marksB (V j) = true ∧ Lk.instsB t K (V j) = true) ∧ w.grownBy wr none) (fun ix _ => K - (intOf ix).toNat)
  case atStart => exact ⟨0, rfl, Nat.zero_le _, fun j hj => by omega, gr0⟩
  case round =>
   obtain ⟨k, rfl, hk, hall, hgr⟩ := hrel
   have HG0 : Hid (w.grownBy wr none) := hgr
   have HAl : Hid (∀ j, j < k → Lk.marksB (V j) = true ∧ Lk.instsB t K (V j) = true) := hall
   clear hall
   obtain ⟨wo, rfl⟩ : ∃ wo, wo = wr := ⟨_, rfl⟩
   by_cases hkK : k < K
   case neg =>
    obtain rfl : k = K := by omega
    have hY := HYes.out HAl.out
    subst hY
    clear hgr
    go_wp2
    go_ret
    exact ⟨rfl, HG0.out⟩
   have hkK' : (k : Int) < K := by omega
   obtain ⟨b, off, rfl, hb, hpa⟩ := (HP.out _ hgr).at hkK
   have HPa : Hid (∀ W, wo.grownBy W none → PcAt N W b (off + k * 3) (V k) (A k)) := fun W g => hpa.ch (l := []) (Ch.of g) (by simp) hb
   have HNk : Hid ((Lk.marksB (V k) && Lk.instsB t K (V k)) = false → R = false) := HNo.out k hkK
   have HVk : Hid (Lk.marksB (V k) = true → Lk.instsB t K (V k) = true → ∀ j, j < k + 1 → Lk.marksB (V j) = true ∧ Lk.instsB t K (V j) = true) := fun h1 h2 j hj => by
    by_cases e : j = k
    ·subst e; exact ⟨h1, h2⟩
    ·exact HAl.out j (by omega)
   have hil := hpa.ins.le
   have him := hpa.ins.max
   have hml := hpa.mks.le
   have hmm := hpa.mks.max
   unfold maxLen at him hmm
   clear hpa hgr
   generalize V k = P at HPa HNk HVk hil hml
   generalize A k = Q at *
   go_wp2_with fail
   go_loopw [8] (fun ix wr => ∃ (i : Nat), ix = .int .i64 i ∧ i ≤ P.m ∧ (∀ j, j < i → 0 ≤ P.M j ∧ P.M j ≤ P.n) ∧ wo.grownBy wr none) (fun ix _ => P.m - (intOf ix).toNat)
   case atStart => exact ⟨0, rfl, Nat.zero_le _, fun j hj => by omega, gr0⟩
   case round =>
    obtain ⟨i, rfl, hi, hmk, hg1⟩ := hrel
    have HMk : Hid (∀ j, j < i → 0 ≤ P.M j ∧ P.M j ≤ P.n) := hmk
    clear hmk
    have HGr : Hid (wo.grownBy wr none) := hg1
    have hpa := HPa.out _ hg1
    have c0 := hpa.c0
    have c1 := hpa.c1
    by_cases him2 : i < P.m
    ·have him2' : (i : Int) < P.m := by omega
     obtain ⟨mb, mo, hma, hmb, hmc⟩ := hpa.mks.at him2
     rw [hma] at c1
     have HBad : Hid (¬ (0 ≤ P.M i ∧ P.M i ≤ P.n) → R = false) := fun hb => HNk.out (by rw [marks_no him2 hb]; rfl)
     have HNx : Hid ((0 ≤ P.M i ∧ P.M i ≤ P.n) → ∀ j, j < i + 1 → 0 ≤ P.M j ∧ P.M j ≤ P.n) := fun h1 j hj => by
      by_cases e : j = i
      ·subst e; exact h1
      ·exact HMk.out j (by omega)
     clear hpa hg1 hma
     generalize P.M i = M at hmc HBad HNx
     rcases (show M < 0 ∨ (0 ≤ M ∧ (P.n : Int) < M) ∨ (0 ≤ M ∧ M ≤ P.n) from by omega) with hc | ⟨hc1, hc2⟩ | ⟨hc1, hc2⟩
     ·have hR := HBad.out (by omega)
      subst hR
      have d1 : decide (M < 0) = true := by simp; omega
      generalize P.n = n at *
      generalize P.m = m at *
      clear HBad HNx
      go_wp2_with fail
      go_quiet (fail)
      go_wp2
      go_ret
      exact ⟨rfl, gtr HG0.out (grown_drewN HGr.out _)⟩
     ·have hR := HBad.out (by omega)
      subst hR
      have d1 : decide (M < 0) = false := by simp; omega
      have d2 : decide ((P.n : Int) < M) = true := by simp; omega
      generalize P.n = n at *
      generalize P.m = m at *
      clear HBad HNx
      go_wp2_with fail
      go_quiet (fail)
      go_wp2
      go_ret
      exact ⟨rfl, gtr HG0.out (grown_drewN HGr.out _)⟩
     ·have d1 : decide (M < 0) = false := by simp; omega
      have d2 : decide ((P.n : Int) < M) = false := by simp; omega
      have HNx2 := HNx.out ⟨hc1, hc2⟩
      have HNx2 : Hid (∀ j, j < i + 1 → 0 ≤ P.M j ∧ P.M j ≤ P.n) := HNx2
      clear HBad HNx
      go_wp2_with fail
      go_quiet (fail)
      go_wp2_with fail
      go_roundw
      case rel => exact ⟨i + 1, by go_num, by omega, HNx2.out, grown_drewN HGr.out _⟩
      case measure => simp [intOf]; omega
    ·obtain rfl : i = P.m := by omega
     have HM1 : Hid (Lk.marksB P = true) := Lk.marksB_iff.2 HMk.out
     clear hpa hg1 HMk
     obtain ⟨w1, hw1⟩ : ∃ w1, w1 = wr := ⟨_, rfl⟩
     rw [← hw1] at c0 c1 HGr ⊢
     clear hw1
     go_wp2_with fail
     go_loopw [9] (fun ix wr => ∃ (i : Nat), ix = .int .i64 i ∧ i ≤ P.n ∧ (∀ j, j < i → Lk.instB t P.m K (P.I j) = true) ∧ wo.grownBy wr none) (fun ix _ => P.n - (intOf ix).toNat)
     case atStart => exact ⟨0, rfl, Nat.zero_le _, fun j hj => by omega, HGr.out⟩
     case round =>
      obtain ⟨i, rfl, hi, hins, hg1⟩ := hrel
      have HIn : Hid (∀ j, j < i → Lk.instB t P.m K (P.I j) = true) := hins
      clear hins
      have HGr : Hid (wo.grownBy wr none) := hg1
      have hpa := HPa.out _ hg1
      have c0 := hpa.c0
      have c1 := hpa.c1
      by_cases hin : i < P.n
      case neg =>
       obtain rfl : i = P.n := by omega
       have HI1 : Hid (Lk.instsB t K P = true) := Lk.instsB_iff.2 HIn.out
       clear hpa hg1
       go_wp2_with fail
       go_roundw
       case rel => exact ⟨k + 1, by go_num, by omega, HVk.out HM1.out HI1.out, gtr HG0.out HGr.out⟩
       case measure => simp [intOf]; omega
      have hin' : (i : Int) < P.n := by omega
      obtain ⟨ib, io, hia, hib, hia9, hrv⟩ := hpa.ins.at hin
      have HM0 := fun W => rinst6_any ht.out (P.I i) P.m K W hrv
      have HBad : Hid (Lk.instB t P.m K (P.I i) = false → R = false) := fun hb => HNk.out (by rw [insts_no hin hb, Bool.and_false])
      have HNx : Hid (Lk.instB t P.m K (P.I i) = true → ∀ j, j < i + 1 → Lk.instB t P.m K (P.I j) = true) := fun h1 j hj => by
       by_cases e : j = i
       ·subst e; exact h1
       ·exact HIn.out j (by omega)
      rw [hia] at c0
      clear hpa hg1 hia hrv
      generalize P.I i = v at hia9 HM0 HBad HNx
      obtain ⟨i0, i1, i2, i3, i4, i5, i6, i7, i8⟩ := hia9
      obtain ⟨n, hn⟩ : ∃ n, n = P.n := ⟨_, rfl⟩
      obtain ⟨m, hm⟩ : ∃ m, m = P.m := ⟨_, rfl⟩
      rw [← hn] at c0 hin'
      rw [← hm] at c1
      have HM0 : Hid (∀ W, Calls Tryz.prog 27 #[.int .i64 t, .agg #[.int .i64 v.op, .int .i64 v.a, .int .i64 v.b, .int .i64 v.c, .int .i64 v.k, .int .i64 v.sub, .int .i64 v.scale, .int .i64 v.imm, .int .i64 v.label], .int .i64 m, .int .i64 K] W fun e w' => e = .returned (.bool (Lk.instB t P.m K v)) ∧ W.grownBy w' none) := by rw [hm]; exact HM0
      have Hnm : Hid (n = P.n ∧ m = P.m) := ⟨hn, hm⟩
      clear hn hm
      generalize Q.ic = ic at *
      generalize Q.ma = ma at *
      generalize Q.mc = mc at *
      cases hb : Lk.instB t P.m K v
      ·have hR := HBad.out hb
       subst hR
       rw [hb] at HM0
       have HMi : Hid (∀ W, Calls Tryz.prog 27 #[.int .i64 t, .agg #[.int .i64 v.op, .int .i64 v.a, .int .i64 v.b, .int .i64 v.c, .int .i64 v.k, .int .i64 v.sub, .int .i64 v.scale, .int .i64 v.imm, .int .i64 v.label], .int .i64 m, .int .i64 K] W fun e w' => e = .returned (.bool false) ∧ W.grownBy w' none) := HM0.out
       clear hb HM0 HBad HNx
       go_wp2_with fail
       refine region_src 18 (psiL [eqV (.int .i64 t), eqV (.slice (some ⟨b, off, none⟩) K c), eqV (.int .i64 (k : Int)), eqV (.pointer (some ⟨b, off + k * 3, none⟩)), eqV (.pointer (some ⟨b, off + k * 3, none⟩)), eqV (.slice (some ⟨ib, io, none⟩) n ic), eqV (.int .i64 (i : Int)), eqV (.pointer (some ⟨ib, io + i * 9, none⟩)), eqV (.agg #[.int .i64 (v.op), .int .i64 (v.a), .int .i64 (v.b), .int .i64 (v.c), .int .i64 (v.k), .int .i64 (v.sub), .int .i64 (v.scale), .int .i64 (v.imm), .int .i64 (v.label)]), eqV (.slice (some ⟨b, off, none⟩) K c), eqV (.int .i64 (k : Int)), eqV (.pointer (some ⟨b, off + k * 3, none⟩)), eqV (.pointer (some ⟨b, off + k * 3 + 1, none⟩)), eqV (.slice ma m mc), eqV (.int .i64 (m : Int)), eqV (.slice (some ⟨b, off, none⟩) K c), eqV (.int .i64 (K : Int)), eqV (.bool false)]) (by kernel_rfl) (by kernel_rfl) (by kernel_rfl) (by kernel_rfl) (psiL_hst (by repeat (first | exact stab_nil | refine stab_cons ?_ ?_ | exact stab_eq _))) ?_ ?_
       ·simp only [List.take_succ_cons, List.take_zero]
        refine ⟨?_, ?_, ?_, ?_, ?_, ?_, ?_, ?_, ?_, ?_, ?_, ?_, ?_, ?_, ?_, ?_, ?_, ?_, trivial⟩
        ·intro VV W0 AA g hV hs hz
         have e00 := hz 0 (.int .i64 t) (by kernel_rfl) rfl
         refine ov (v := .int .i64 t) ?_ rfl
         simp [go_sem, e00]
        ·intro VV W0 AA g hV hs hz
         have e01 := hz 1 (.slice (some ⟨b, off, none⟩) K c) (by kernel_rfl) rfl
         refine ov (v := .slice (some ⟨b, off, none⟩) K c) ?_ rfl
         simp [go_sem, e01]
        ·intro VV W0 AA g hV hs hz
         have e07 := hz 7 (.int .i64 (k : Int)) (by kernel_rfl) rfl
         refine ov (v := .int .i64 (k : Int)) ?_ rfl
         simp [go_sem, e07]
        ·intro VV W0 AA g hV hs hz
         have q1 := psiL_eq (hV 1 (by kernel_rfl)) rfl
         have e1 := hs 89 1 (by kernel_rfl) (by kernel_rfl)
         have q2 := psiL_eq (hV 2 (by kernel_rfl)) rfl
         have e2 := hs 90 2 (by kernel_rfl) (by kernel_rfl)
         refine ov (v := .pointer (some ⟨b, off + k * 3, none⟩)) ?_ rfl
         simp [go_sem, q1, e1, q2, e2, hkK']
        ·intro VV W0 AA g hV hs hz
         have q3 := psiL_eq (hV 3 (by kernel_rfl)) rfl
         have e3 := hs 91 3 (by kernel_rfl) (by kernel_rfl)
         refine ov (v := .pointer (some ⟨b, off + k * 3, none⟩)) ?_ rfl
         simp [go_sem, q3, e3]
        ·intro VV W0 AA g hV hs hz
         have gD : wr.grownBy W0 none := gdd g
         have q4 := psiL_eq (hV 4 (by kernel_rfl)) rfl
         have e4 := hs 92 4 (by kernel_rfl) (by kernel_rfl)
         have x0 := gD.cell c0 (by simp)
         refine ov (v := .slice (some ⟨ib, io, none⟩) n ic) ?_ rfl
         simp [go_sem, q4, e4, x0]
        ·intro VV W0 AA g hV hs hz
         have e09 := hz 9 (.int .i64 (i : Int)) (by kernel_rfl) rfl
         refine ov (v := .int .i64 (i : Int)) ?_ rfl
         simp [go_sem, e09]
        ·intro VV W0 AA g hV hs hz
         have q5 := psiL_eq (hV 5 (by kernel_rfl)) rfl
         have e5 := hs 93 5 (by kernel_rfl) (by kernel_rfl)
         have q6 := psiL_eq (hV 6 (by kernel_rfl)) rfl
         have e6 := hs 94 6 (by kernel_rfl) (by kernel_rfl)
         refine ov (v := .pointer (some ⟨ib, io + i * 9, none⟩)) ?_ rfl
         simp [go_sem, q5, e5, q6, e6, hin']
        ·intro VV W0 AA g hV hs hz
         have gD : wr.grownBy W0 none := gdd g
         have q7 := psiL_eq (hV 7 (by kernel_rfl)) rfl
         have e7 := hs 95 7 (by kernel_rfl) (by kernel_rfl)
         have x0 := gD.cell i0 (by simp)
         have x1 := gD.cell i1 (by simp)
         have x2 := gD.cell i2 (by simp)
         have x3 := gD.cell i3 (by simp)
         have x4 := gD.cell i4 (by simp)
         have x5 := gD.cell i5 (by simp)
         have x6 := gD.cell i6 (by simp)
         have x7 := gD.cell i7 (by simp)
         have x8 := gD.cell i8 (by simp)
         refine ov (v := .agg #[.int .i64 (v.op), .int .i64 (v.a), .int .i64 (v.b), .int .i64 (v.c), .int .i64 (v.k), .int .i64 (v.sub), .int .i64 (v.scale), .int .i64 (v.imm), .int .i64 (v.label)]) ?_ rfl
         simp [go_sem, q7, e7, x0, x1, x2, x3, x4, x5, x6, x7, x8]
        ·intro VV W0 AA g hV hs hz
         have e01 := hz 1 (.slice (some ⟨b, off, none⟩) K c) (by kernel_rfl) rfl
         refine ov (v := .slice (some ⟨b, off, none⟩) K c) ?_ rfl
         simp [go_sem, e01]
        ·intro VV W0 AA g hV hs hz
         have e07 := hz 7 (.int .i64 (k : Int)) (by kernel_rfl) rfl
         refine ov (v := .int .i64 (k : Int)) ?_ rfl
         simp [go_sem, e07]
        ·intro VV W0 AA g hV hs hz
         have q9 := psiL_eq (hV 9 (by kernel_rfl)) rfl
         have e9 := hs 97 9 (by kernel_rfl) (by kernel_rfl)
         have q10 := psiL_eq (hV 10 (by kernel_rfl)) rfl
         have e10 := hs 98 10 (by kernel_rfl) (by kernel_rfl)
         refine ov (v := .pointer (some ⟨b, off + k * 3, none⟩)) ?_ rfl
         simp [go_sem, q9, e9, q10, e10, hkK']
        ·intro VV W0 AA g hV hs hz
         have q11 := psiL_eq (hV 11 (by kernel_rfl)) rfl
         have e11 := hs 99 11 (by kernel_rfl) (by kernel_rfl)
         refine ov (v := .pointer (some ⟨b, off + k * 3 + 1, none⟩)) ?_ rfl
         simp [go_sem, q11, e11]
        ·intro VV W0 AA g hV hs hz
         have gD : wr.grownBy W0 none := gdd g
         have q12 := psiL_eq (hV 12 (by kernel_rfl)) rfl
         have e12 := hs 100 12 (by kernel_rfl) (by kernel_rfl)
         have x0 := gD.cell c1 (by simp)
         refine ov (v := .slice ma m mc) ?_ rfl
         simp [go_sem, q12, e12, x0]
        ·intro VV W0 AA g hV hs hz
         have q13 := psiL_eq (hV 13 (by kernel_rfl)) rfl
         have e13 := hs 101 13 (by kernel_rfl) (by kernel_rfl)
         refine ov (v := .int .i64 (m : Int)) ?_ rfl
         simp [go_sem, q13, e13]
        ·intro VV W0 AA g hV hs hz
         have e01 := hz 1 (.slice (some ⟨b, off, none⟩) K c) (by kernel_rfl) rfl
         refine ov (v := .slice (some ⟨b, off, none⟩) K c) ?_ rfl
         simp [go_sem, e01]
        ·intro VV W0 AA g hV hs hz
         have q15 := psiL_eq (hV 15 (by kernel_rfl)) rfl
         have e15 := hs 103 15 (by kernel_rfl) (by kernel_rfl)
         refine ov (v := .int .i64 (K : Int)) ?_ rfl
         simp [go_sem, q15, e15]
        ·intro VV W0 AA g hV hs hz
         have q0 := psiL_eq (hV 0 (by kernel_rfl)) rfl
         have e0 := hs 88 0 (by kernel_rfl) (by kernel_rfl)
         have q8 := psiL_eq (hV 8 (by kernel_rfl)) rfl
         have e8 := hs 96 8 (by kernel_rfl) (by kernel_rfl)
         have q14 := psiL_eq (hV 14 (by kernel_rfl)) rfl
         have e14 := hs 102 14 (by kernel_rfl) (by kernel_rfl)
         have q16 := psiL_eq (hV 16 (by kernel_rfl)) rfl
         have e16 := hs 104 16 (by kernel_rfl) (by kernel_rfl)
         refine outO_call (f := 27) ?_ ((HMi.out W0).mono fun e w2 ⟨he, hg⟩ => ⟨_, he, hg, rfl⟩)
         simp [go_sem, q0, e0, q8, e8, q14, e14, q16, e16]
       ·intro VV W0 g hV
        have gD : wr.grownBy W0 none := gdd g
        have h0 := psiL_eq (hV 0 (by decide)) rfl
        have h1 := psiL_eq (hV 1 (by decide)) rfl
        have h2 := psiL_eq (hV 2 (by decide)) rfl
        have h3 := psiL_eq (hV 3 (by decide)) rfl
        have h4 := psiL_eq (hV 4 (by decide)) rfl
        have h5 := psiL_eq (hV 5 (by decide)) rfl
        have h6 := psiL_eq (hV 6 (by decide)) rfl
        have h7 := psiL_eq (hV 7 (by decide)) rfl
        have h8 := psiL_eq (hV 8 (by decide)) rfl
        have h9 := psiL_eq (hV 9 (by decide)) rfl
        have h10 := psiL_eq (hV 10 (by decide)) rfl
        have h11 := psiL_eq (hV 11 (by decide)) rfl
        have h12 := psiL_eq (hV 12 (by decide)) rfl
        have h13 := psiL_eq (hV 13 (by decide)) rfl
        have h14 := psiL_eq (hV 14 (by decide)) rfl
        have h15 := psiL_eq (hV 15 (by decide)) rfl
        have h16 := psiL_eq (hV 16 (by decide)) rfl
        have h17 := psiL_eq (hV 17 (by decide)) rfl
        simp [frV, dstOf, Act.put, h0, h1, h2, h3, h4, h5, h6, h7, h8, h9, h10, h11, h12, h13, h14, h15, h16, h17]
        clear h0 h1 h2 h3 h4 h5 h6 h7 h8 h9 h10 h11 h12 h13 h14 h15 h16 h17 hV g
        have GR : Hid (wr.grownBy W0 none) := gD
        clear gD
        go_wp2
        go_ret
        exact ⟨rfl, gtr HG0.out (gtr HGr.out GR.out)⟩
      ·rw [hb] at HM0
       have HMi : Hid (∀ W, Calls Tryz.prog 27 #[.int .i64 t, .agg #[.int .i64 v.op, .int .i64 v.a, .int .i64 v.b, .int .i64 v.c, .int .i64 v.k, .int .i64 v.sub, .int .i64 v.scale, .int .i64 v.imm, .int .i64 v.label], .int .i64 m, .int .i64 K] W fun e w' => e = .returned (.bool true) ∧ W.grownBy w' none) := HM0.out
       have HNx2 := HNx.out hb
       have HNx2 : Hid (∀ j, j < i + 1 → Lk.instB t P.m K (P.I j) = true) := HNx2
       clear hb HM0 HBad HNx
       go_wp2_with fail
       refine region_src 18 (psiL [eqV (.int .i64 t), eqV (.slice (some ⟨b, off, none⟩) K c), eqV (.int .i64 (k : Int)), eqV (.pointer (some ⟨b, off + k * 3, none⟩)), eqV (.pointer (some ⟨b, off + k * 3, none⟩)), eqV (.slice (some ⟨ib, io, none⟩) n ic), eqV (.int .i64 (i : Int)), eqV (.pointer (some ⟨ib, io + i * 9, none⟩)), eqV (.agg #[.int .i64 (v.op), .int .i64 (v.a), .int .i64 (v.b), .int .i64 (v.c), .int .i64 (v.k), .int .i64 (v.sub), .int .i64 (v.scale), .int .i64 (v.imm), .int .i64 (v.label)]), eqV (.slice (some ⟨b, off, none⟩) K c), eqV (.int .i64 (k : Int)), eqV (.pointer (some ⟨b, off + k * 3, none⟩)), eqV (.pointer (some ⟨b, off + k * 3 + 1, none⟩)), eqV (.slice ma m mc), eqV (.int .i64 (m : Int)), eqV (.slice (some ⟨b, off, none⟩) K c), eqV (.int .i64 (K : Int)), eqV (.bool true)]) (by kernel_rfl) (by kernel_rfl) (by kernel_rfl) (by kernel_rfl) (psiL_hst (by repeat (first | exact stab_nil | refine stab_cons ?_ ?_ | exact stab_eq _))) ?_ ?_
       ·simp only [List.take_succ_cons, List.take_zero]
        refine ⟨?_, ?_, ?_, ?_, ?_, ?_, ?_, ?_, ?_, ?_, ?_, ?_, ?_, ?_, ?_, ?_, ?_, ?_, trivial⟩
        ·intro VV W0 AA g hV hs hz
         have e00 := hz 0 (.int .i64 t) (by kernel_rfl) rfl
         refine ov (v := .int .i64 t) ?_ rfl
         simp [go_sem, e00]
        ·intro VV W0 AA g hV hs hz
         have e01 := hz 1 (.slice (some ⟨b, off, none⟩) K c) (by kernel_rfl) rfl
         refine ov (v := .slice (some ⟨b, off, none⟩) K c) ?_ rfl
         simp [go_sem, e01]
        ·intro VV W0 AA g hV hs hz
         have e07 := hz 7 (.int .i64 (k : Int)) (by kernel_rfl) rfl
         refine ov (v := .int .i64 (k : Int)) ?_ rfl
         simp [go_sem, e07]
        ·intro VV W0 AA g hV hs hz
         have q1 := psiL_eq (hV 1 (by kernel_rfl)) rfl
         have e1 := hs 89 1 (by kernel_rfl) (by kernel_rfl)
         have q2 := psiL_eq (hV 2 (by kernel_rfl)) rfl
         have e2 := hs 90 2 (by kernel_rfl) (by kernel_rfl)
         refine ov (v := .pointer (some ⟨b, off + k * 3, none⟩)) ?_ rfl
         simp [go_sem, q1, e1, q2, e2, hkK']
        ·intro VV W0 AA g hV hs hz
         have q3 := psiL_eq (hV 3 (by kernel_rfl)) rfl
         have e3 := hs 91 3 (by kernel_rfl) (by kernel_rfl)
         refine ov (v := .pointer (some ⟨b, off + k * 3, none⟩)) ?_ rfl
         simp [go_sem, q3, e3]
        ·intro VV W0 AA g hV hs hz
         have gD : wr.grownBy W0 none := gdd g
         have q4 := psiL_eq (hV 4 (by kernel_rfl)) rfl
         have e4 := hs 92 4 (by kernel_rfl) (by kernel_rfl)
         have x0 := gD.cell c0 (by simp)
         refine ov (v := .slice (some ⟨ib, io, none⟩) n ic) ?_ rfl
         simp [go_sem, q4, e4, x0]
        ·intro VV W0 AA g hV hs hz
         have e09 := hz 9 (.int .i64 (i : Int)) (by kernel_rfl) rfl
         refine ov (v := .int .i64 (i : Int)) ?_ rfl
         simp [go_sem, e09]
        ·intro VV W0 AA g hV hs hz
         have q5 := psiL_eq (hV 5 (by kernel_rfl)) rfl
         have e5 := hs 93 5 (by kernel_rfl) (by kernel_rfl)
         have q6 := psiL_eq (hV 6 (by kernel_rfl)) rfl
         have e6 := hs 94 6 (by kernel_rfl) (by kernel_rfl)
         refine ov (v := .pointer (some ⟨ib, io + i * 9, none⟩)) ?_ rfl
         simp [go_sem, q5, e5, q6, e6, hin']
        ·intro VV W0 AA g hV hs hz
         have gD : wr.grownBy W0 none := gdd g
         have q7 := psiL_eq (hV 7 (by kernel_rfl)) rfl
         have e7 := hs 95 7 (by kernel_rfl) (by kernel_rfl)
         have x0 := gD.cell i0 (by simp)
         have x1 := gD.cell i1 (by simp)
         have x2 := gD.cell i2 (by simp)
         have x3 := gD.cell i3 (by simp)
         have x4 := gD.cell i4 (by simp)
         have x5 := gD.cell i5 (by simp)
         have x6 := gD.cell i6 (by simp)
         have x7 := gD.cell i7 (by simp)
         have x8 := gD.cell i8 (by simp)
         refine ov (v := .agg #[.int .i64 (v.op), .int .i64 (v.a), .int .i64 (v.b), .int .i64 (v.c), .int .i64 (v.k), .int .i64 (v.sub), .int .i64 (v.scale), .int .i64 (v.imm), .int .i64 (v.label)]) ?_ rfl
         simp [go_sem, q7, e7, x0, x1, x2, x3, x4, x5, x6, x7, x8]
        ·intro VV W0 AA g hV hs hz
         have e01 := hz 1 (.slice (some ⟨b, off, none⟩) K c) (by kernel_rfl) rfl
         refine ov (v := .slice (some ⟨b, off, none⟩) K c) ?_ rfl
         simp [go_sem, e01]
        ·intro VV W0 AA g hV hs hz
         have e07 := hz 7 (.int .i64 (k : Int)) (by kernel_rfl) rfl
         refine ov (v := .int .i64 (k : Int)) ?_ rfl
         simp [go_sem, e07]
        ·intro VV W0 AA g hV hs hz
         have q9 := psiL_eq (hV 9 (by kernel_rfl)) rfl
         have e9 := hs 97 9 (by kernel_rfl) (by kernel_rfl)
         have q10 := psiL_eq (hV 10 (by kernel_rfl)) rfl
         have e10 := hs 98 10 (by kernel_rfl) (by kernel_rfl)
         refine ov (v := .pointer (some ⟨b, off + k * 3, none⟩)) ?_ rfl
         simp [go_sem, q9, e9, q10, e10, hkK']
        ·intro VV W0 AA g hV hs hz
         have q11 := psiL_eq (hV 11 (by kernel_rfl)) rfl
         have e11 := hs 99 11 (by kernel_rfl) (by kernel_rfl)
         refine ov (v := .pointer (some ⟨b, off + k * 3 + 1, none⟩)) ?_ rfl
         simp [go_sem, q11, e11]
        ·intro VV W0 AA g hV hs hz
         have gD : wr.grownBy W0 none := gdd g
         have q12 := psiL_eq (hV 12 (by kernel_rfl)) rfl
         have e12 := hs 100 12 (by kernel_rfl) (by kernel_rfl)
         have x0 := gD.cell c1 (by simp)
         refine ov (v := .slice ma m mc) ?_ rfl
         simp [go_sem, q12, e12, x0]
        ·intro VV W0 AA g hV hs hz
         have q13 := psiL_eq (hV 13 (by kernel_rfl)) rfl
         have e13 := hs 101 13 (by kernel_rfl) (by kernel_rfl)
         refine ov (v := .int .i64 (m : Int)) ?_ rfl
         simp [go_sem, q13, e13]
        ·intro VV W0 AA g hV hs hz
         have e01 := hz 1 (.slice (some ⟨b, off, none⟩) K c) (by kernel_rfl) rfl
         refine ov (v := .slice (some ⟨b, off, none⟩) K c) ?_ rfl
         simp [go_sem, e01]
        ·intro VV W0 AA g hV hs hz
         have q15 := psiL_eq (hV 15 (by kernel_rfl)) rfl
         have e15 := hs 103 15 (by kernel_rfl) (by kernel_rfl)
         refine ov (v := .int .i64 (K : Int)) ?_ rfl
         simp [go_sem, q15, e15]
        ·intro VV W0 AA g hV hs hz
         have q0 := psiL_eq (hV 0 (by kernel_rfl)) rfl
         have e0 := hs 88 0 (by kernel_rfl) (by kernel_rfl)
         have q8 := psiL_eq (hV 8 (by kernel_rfl)) rfl
         have e8 := hs 96 8 (by kernel_rfl) (by kernel_rfl)
         have q14 := psiL_eq (hV 14 (by kernel_rfl)) rfl
         have e14 := hs 102 14 (by kernel_rfl) (by kernel_rfl)
         have q16 := psiL_eq (hV 16 (by kernel_rfl)) rfl
         have e16 := hs 104 16 (by kernel_rfl) (by kernel_rfl)
         refine outO_call (f := 27) ?_ ((HMi.out W0).mono fun e w2 ⟨he, hg⟩ => ⟨_, he, hg, rfl⟩)
         simp [go_sem, q0, e0, q8, e8, q14, e14, q16, e16]
       ·intro VV W0 g hV
        have gD : wr.grownBy W0 none := gdd g
        have h0 := psiL_eq (hV 0 (by decide)) rfl
        have h1 := psiL_eq (hV 1 (by decide)) rfl
        have h2 := psiL_eq (hV 2 (by decide)) rfl
        have h3 := psiL_eq (hV 3 (by decide)) rfl
        have h4 := psiL_eq (hV 4 (by decide)) rfl
        have h5 := psiL_eq (hV 5 (by decide)) rfl
        have h6 := psiL_eq (hV 6 (by decide)) rfl
        have h7 := psiL_eq (hV 7 (by decide)) rfl
        have h8 := psiL_eq (hV 8 (by decide)) rfl
        have h9 := psiL_eq (hV 9 (by decide)) rfl
        have h10 := psiL_eq (hV 10 (by decide)) rfl
        have h11 := psiL_eq (hV 11 (by decide)) rfl
        have h12 := psiL_eq (hV 12 (by decide)) rfl
        have h13 := psiL_eq (hV 13 (by decide)) rfl
        have h14 := psiL_eq (hV 14 (by decide)) rfl
        have h15 := psiL_eq (hV 15 (by decide)) rfl
        have h16 := psiL_eq (hV 16 (by decide)) rfl
        have h17 := psiL_eq (hV 17 (by decide)) rfl
        simp [frV, dstOf, Act.put, h0, h1, h2, h3, h4, h5, h6, h7, h8, h9, h10, h11, h12, h13, h14, h15, h16, h17]
        clear h0 h1 h2 h3 h4 h5 h6 h7 h8 h9 h10 h11 h12 h13 h14 h15 h16 h17 hV g
        have GR : Hid (wr.grownBy W0 none) := gD
        clear gD
        go_wp2_with fail
        go_roundw
        case rel => exact ⟨i + 1, by go_num, by omega, HNx2.out, gtr HGr.out GR.out⟩
        case measure => simp [intOf]; omega)
theorem may6_form {w : World} {N : Nat} {t en : Int} {a : Option Addr} {K c : Nat} {V : Nat → Lk.PcV} {A : Nat → PcA} (h : PcsIn N w a K c V A) :
  Calls Tryz.prog 11 #[.int .i64 t, .slice a K c, .int .i64 en] w fun e w' => e = .returned (.bool (formB t en K V)) ∧ w.grownBy w' none := by
 by_cases ht : t = 1 ∨ t = 2
 ·by_cases hb : K = 0 ∨ 33 < K ∨ en < 0 ∨ (K : Int) ≤ en
  ·rw [formB_no (fun hf => by have := hf.2; omega)]
   exact may6h_t ht hb
  ·obtain ⟨n, rfl⟩ : ∃ n : Nat, en = n := ⟨en.toNat, by omega⟩
   have : formB t n K V = Lk.piecesB t K V := by
    have a0 : (t == 1 || t == 2) = true := by simpa using ht
    have a1 : 0 < K := by omega
    have a2 : K ≤ 33 := by omega
    have a3 : n < K := by omega
    unfold formB
    rw [a0]
    simp [a1, a2, a3]
   rw [this]
   exact may6x_t ht h (by omega) (by omega) (by omega)
 ·rw [formB_no (fun hf => ht hf.1)]
  exact may6x_n (fun h1 => ht (.inl h1)) (fun h2 => ht (.inr h2))
end Go.Proofs.YtkiockffejlnhaaGreatDoor
