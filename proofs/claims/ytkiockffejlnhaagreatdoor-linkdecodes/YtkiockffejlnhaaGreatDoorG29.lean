/- Contracts and plain facts that the walks share, text by text: LdMayC, LdHv. -/
import Derived.Test.YtkiockffejlnhaaGreatDoorG23
import Derived.Test.YtkiockffejlnhaaGreatDoorLkRa
/- gantryref6.May, of pieces that may be linked. -/
namespace Go.Proofs.YtkiockffejlnhaaGreatDoor
open Go.RowKit
set_option linter.unusedVariables false
set_option maxRecDepth 100000 in
set_option maxHeartbeats 8000000 in
theorem may6_c {w : World} {N : Nat} {a : Option Addr} {K c : Nat} {V : Nat → Lk.PcV} {A : Nat → PcA} (h : PcsIn N w a K c V A) (h0 : 0 < K) (hK : K ≤ 33) {en : Nat} (hen : en < K) (hok : ∀ k, k < K → (V k).Ok 2 K) (hrng : ∀ k, k < K → ∀ i, i < (V k).n → InRng ((V k).I i)) :
    Calls Tryz.prog 11 #[.int .i64 2, .slice a K c, .int .i64 en] w fun e w' => e = .returned (.bool true) ∧ w.grownBy w' none := by
  have hle := h.le
  have hmx := h.max
  unfold maxLen at hmx
  have h0' : (0 : Int) < K := by omega
  have hK' : (K : Int) ≤ 33 := by omega
  have hen' : (en : Int) < K := by omega
  have HP : Hid (∀ W, w.grownBy W none → PcsIn N W a K c V A) := fun W g => h.ch (l := []) (Ch.of g) (by simp)
  have HOk : Hid (∀ k, k < K → (V k).Ok 2 K) := hok
  have HRg : Hid (∀ k, k < K → ∀ i, i < (V k).n → InRng ((V k).I i)) := hrng
  clear h hok hrng
  go_enter Tryz.func11, Tryz.ntmps11
  go_wp2_with fail
  go_loopw [7] (fun ix wr => ∃ (k : Nat), ix = .int .i64 k ∧ k ≤ K ∧ w.grownBy wr none) (fun ix _ => K - (intOf ix).toNat)
  case atStart => exact ⟨0, rfl, Nat.zero_le _, World.grownBy.refl _ _⟩
  case round =>
    obtain ⟨k, rfl, hk, hgr⟩ := hrel
    have HG0 : Hid (w.grownBy wr none) := hgr
    obtain ⟨wo, rfl⟩ : ∃ wo, wo = wr := ⟨_, rfl⟩
    by_cases hkK : k < K
    case neg =>
      obtain rfl : k = K := by omega
      clear hgr
      go_wp2
      go_ret
      exact ⟨rfl, HG0.out⟩
    have hkK' : (k : Int) < K := by omega
    obtain ⟨b, off, rfl, hb, hpa⟩ := (HP.out _ hgr).at hkK
    have HPa : Hid (∀ W, wo.grownBy W none → PcAt N W b (off + k * 3) (V k) (A k)) := fun W g => hpa.ch (l := []) (Ch.of g) (by simp) hb
    have HOv : Hid ((V k).Ok 2 K) := HOk.out k hkK
    have HRv : Hid (∀ i, i < (V k).n → InRng ((V k).I i)) := HRg.out k hkK
    have hil := hpa.ins.le
    have him := hpa.ins.max
    have hml := hpa.mks.le
    have hmm := hpa.mks.max
    unfold maxLen at him hmm
    clear hpa hgr
    generalize V k = P at *
    generalize A k = Q at *
    go_wp2_with fail
    go_loopw [8] (fun ix wr => ∃ (i : Nat), ix = .int .i64 i ∧ i ≤ P.m ∧ wo.grownBy wr none) (fun ix _ => P.m - (intOf ix).toNat)
    case atStart => exact ⟨0, rfl, Nat.zero_le _, World.grownBy.refl _ _⟩
    case round =>
      obtain ⟨i, rfl, hi, hg1⟩ := hrel
      have HGr : Hid (wo.grownBy wr none) := hg1
      have hpa := HPa.out _ hg1
      have c0 := hpa.c0
      have c1 := hpa.c1
      by_cases him2 : i < P.m
      · have him2' : (i : Int) < P.m := by omega
        obtain ⟨mb, mo, hma, hmb, hmc⟩ := hpa.mks.at him2
        have hmr := HOv.out.marks i him2
        have d1 : decide (P.M i < 0) = false := by simp; omega
        have d2 : decide ((P.n : Int) < P.M i) = false := by simp; omega
        rw [hma] at c1
        clear hpa hg1 hma
        generalize P.M i = M at *
        generalize P.n = n at *
        generalize P.m = m at *
        go_wp2_with fail
        go_quiet (fail)
        go_wp2_with fail
        go_roundw
        case rel => exact ⟨i + 1, by go_num, by omega, grown_drewN HGr.out _⟩
        case measure => simp [intOf]; omega
      · obtain rfl : i = P.m := by omega
        clear hpa hg1
        obtain ⟨w1, hw1⟩ : ∃ w1, w1 = wr := ⟨_, rfl⟩
        rw [← hw1] at c0 c1 HGr ⊢
        clear hw1
        go_wp2_with fail
        go_loopw [9] (fun ix wr => ∃ (i : Nat), ix = .int .i64 i ∧ i ≤ P.n ∧ wo.grownBy wr none) (fun ix _ => P.n - (intOf ix).toNat)
        case atStart => exact ⟨0, rfl, Nat.zero_le _, HGr.out⟩
        case round =>
          obtain ⟨i, rfl, hi, hg1⟩ := hrel
          have HGr : Hid (wo.grownBy wr none) := hg1
          have hpa := HPa.out _ hg1
          have c0 := hpa.c0
          have c1 := hpa.c1
          by_cases hin : i < P.n
          case neg =>
            obtain rfl : i = P.n := by omega
            clear hpa hg1
            go_wp2_with fail
            go_roundw
            case rel => exact ⟨k + 1, by go_num, by omega, grown_trans HG0.out HGr.out⟩
            case measure => simp [intOf]; omega
          have hin' : (i : Int) < P.n := by omega
          obtain ⟨ib, io, hia, hib, hia9, hrv⟩ := hpa.ins.at hin
          have HMi : Hid (∀ W, Calls Tryz.prog 27 #[.int .i64 2, .agg #[.int .i64 (P.I i).op, .int .i64 (P.I i).a, .int .i64 (P.I i).b, .int .i64 (P.I i).c, .int .i64 (P.I i).k, .int .i64 (P.I i).sub, .int .i64 (P.I i).scale, .int .i64 (P.I i).imm, .int .i64 (P.I i).label], .int .i64 P.m, .int .i64 K] W fun e w' => e = .returned (.bool true) ∧ W.grownBy w' none) := fun W => by
            have := rinst6_any (t := 2) (by decide) (P.I i) P.m K W hrv
            rw [HOv.out.insts i hin] at this
            exact this
          rw [hia] at c0
          clear hpa hg1 hia
          generalize P.I i = v at *
          obtain ⟨i0, i1, i2, i3, i4, i5, i6, i7, i8⟩ := hia9
          clear hrv
          generalize P.n = n at *
          generalize P.m = m at *
          generalize Q.ic = ic at *
          generalize Q.ma = ma at *
          generalize Q.mc = mc at *
          go_wp2_with fail
          refine region_src 18 (psiV [.int .i64 2, .slice (some ⟨b, off, none⟩) K c, .int .i64 (k : Int), .pointer (some ⟨b, off + k * 3, none⟩), .pointer (some ⟨b, off + k * 3, none⟩), .slice (some ⟨ib, io, none⟩) n ic, .int .i64 (i : Int), .pointer (some ⟨ib, io + i * 9, none⟩), .agg #[.int .i64 v.op, .int .i64 v.a, .int .i64 v.b, .int .i64 v.c, .int .i64 v.k, .int .i64 v.sub, .int .i64 v.scale, .int .i64 v.imm, .int .i64 v.label], .slice (some ⟨b, off, none⟩) K c, .int .i64 (k : Int), .pointer (some ⟨b, off + k * 3, none⟩), .pointer (some ⟨b, off + k * 3 + 1, none⟩), .slice ma m mc, .int .i64 (m : Int), .slice (some ⟨b, off, none⟩) K c, .int .i64 (K : Int), .bool true]) (by kernel_rfl) (by kernel_rfl) (by kernel_rfl) (by kernel_rfl) (fun i x w0 w1 hi h g => h) ?_ ?_
          · simp only [List.take_succ_cons, List.take_zero]
            refine ⟨?_, ?_, ?_, ?_, ?_, ?_, ?_, ?_, ?_, ?_, ?_, ?_, ?_, ?_, ?_, ?_, ?_, ?_, trivial⟩
            · intro VV W0 AA g hV hs hz
              have gD : wr.grownBy W0 none := grown_trans (grown_drew (World.grownBy.refl _ none)) g
              have e00 := hz 0 (.int .i64 2) (by kernel_rfl) rfl
              clear hV hs hz
              refine outO_val (v := .int .i64 2) (w' := W0) ?_ (World.grownBy.refl _ _) rfl
              simp [go_sem, e00]
            · intro VV W0 AA g hV hs hz
              have gD : wr.grownBy W0 none := grown_trans (grown_drew (World.grownBy.refl _ none)) g
              have e01 := hz 1 (.slice (some ⟨b, off, none⟩) K c) (by kernel_rfl) rfl
              clear hV hs hz
              refine outO_val (v := .slice (some ⟨b, off, none⟩) K c) (w' := W0) ?_ (World.grownBy.refl _ _) rfl
              simp [go_sem, e01]
            · intro VV W0 AA g hV hs hz
              have gD : wr.grownBy W0 none := grown_trans (grown_drew (World.grownBy.refl _ none)) g
              have e07 := hz 7 (.int .i64 (k : Int)) (by kernel_rfl) rfl
              clear hV hs hz
              refine outO_val (v := .int .i64 (k : Int)) (w' := W0) ?_ (World.grownBy.refl _ _) rfl
              simp [go_sem, e07]
            · intro VV W0 AA g hV hs hz
              have gD : wr.grownBy W0 none := grown_trans (grown_drew (World.grownBy.refl _ none)) g
              have q1 : VV 1 = .slice (some ⟨b, off, none⟩) K c := hV 1 (by kernel_rfl)
              have e1 := hs 89 1 (by kernel_rfl) (by kernel_rfl)
              have q2 : VV 2 = .int .i64 (k : Int) := hV 2 (by kernel_rfl)
              have e2 := hs 90 2 (by kernel_rfl) (by kernel_rfl)
              clear hV hs hz
              refine outO_val (v := .pointer (some ⟨b, off + k * 3, none⟩)) (w' := W0) ?_ (World.grownBy.refl _ _) rfl
              simp [go_sem, q1, e1, q2, e2, hkK']
            · intro VV W0 AA g hV hs hz
              have gD : wr.grownBy W0 none := grown_trans (grown_drew (World.grownBy.refl _ none)) g
              have q3 : VV 3 = .pointer (some ⟨b, off + k * 3, none⟩) := hV 3 (by kernel_rfl)
              have e3 := hs 91 3 (by kernel_rfl) (by kernel_rfl)
              clear hV hs hz
              refine outO_val (v := .pointer (some ⟨b, off + k * 3, none⟩)) (w' := W0) ?_ (World.grownBy.refl _ _) rfl
              simp [go_sem, q3, e3]
            · intro VV W0 AA g hV hs hz
              have gD : wr.grownBy W0 none := grown_trans (grown_drew (World.grownBy.refl _ none)) g
              have q4 : VV 4 = .pointer (some ⟨b, off + k * 3, none⟩) := hV 4 (by kernel_rfl)
              have e4 := hs 92 4 (by kernel_rfl) (by kernel_rfl)
              have x0 := gD.cell c0 (by simp)
              clear hV hs hz
              refine outO_val (v := .slice (some ⟨ib, io, none⟩) n ic) (w' := W0) ?_ (World.grownBy.refl _ _) rfl
              simp [go_sem, q4, e4, x0]
            · intro VV W0 AA g hV hs hz
              have gD : wr.grownBy W0 none := grown_trans (grown_drew (World.grownBy.refl _ none)) g
              have e09 := hz 9 (.int .i64 (i : Int)) (by kernel_rfl) rfl
              clear hV hs hz
              refine outO_val (v := .int .i64 (i : Int)) (w' := W0) ?_ (World.grownBy.refl _ _) rfl
              simp [go_sem, e09]
            · intro VV W0 AA g hV hs hz
              have gD : wr.grownBy W0 none := grown_trans (grown_drew (World.grownBy.refl _ none)) g
              have q5 : VV 5 = .slice (some ⟨ib, io, none⟩) n ic := hV 5 (by kernel_rfl)
              have e5 := hs 93 5 (by kernel_rfl) (by kernel_rfl)
              have q6 : VV 6 = .int .i64 (i : Int) := hV 6 (by kernel_rfl)
              have e6 := hs 94 6 (by kernel_rfl) (by kernel_rfl)
              clear hV hs hz
              refine outO_val (v := .pointer (some ⟨ib, io + i * 9, none⟩)) (w' := W0) ?_ (World.grownBy.refl _ _) rfl
              simp [go_sem, q5, e5, q6, e6, hin']
            · intro VV W0 AA g hV hs hz
              have gD : wr.grownBy W0 none := grown_trans (grown_drew (World.grownBy.refl _ none)) g
              have q7 : VV 7 = .pointer (some ⟨ib, io + i * 9, none⟩) := hV 7 (by kernel_rfl)
              have e7 := hs 95 7 (by kernel_rfl) (by kernel_rfl)
              have x0 := gD.cell i0 (by simp)
              have x1 := gD.cell i1 (by simp)
              have x2 := gD.cell i2 (by simp)
              have x3 := gD.cell i3 (by simp)
              have x4 := gD.cell i4 (by simp)
              have x5 := gD.cell i5 (by simp)
              have x6 := gD.cell i6 (by simp)
              have x7 := gD.cell i7 (by simp)
              have x8 := gD.cell i8 (by simp)
              clear hV hs hz
              refine outO_val (v := .agg #[.int .i64 v.op, .int .i64 v.a, .int .i64 v.b, .int .i64 v.c, .int .i64 v.k, .int .i64 v.sub, .int .i64 v.scale, .int .i64 v.imm, .int .i64 v.label]) (w' := W0) ?_ (World.grownBy.refl _ _) rfl
              simp [go_sem, q7, e7, x0, x1, x2, x3, x4, x5, x6, x7, x8]
            · intro VV W0 AA g hV hs hz
              have gD : wr.grownBy W0 none := grown_trans (grown_drew (World.grownBy.refl _ none)) g
              have e01 := hz 1 (.slice (some ⟨b, off, none⟩) K c) (by kernel_rfl) rfl
              clear hV hs hz
              refine outO_val (v := .slice (some ⟨b, off, none⟩) K c) (w' := W0) ?_ (World.grownBy.refl _ _) rfl
              simp [go_sem, e01]
            · intro VV W0 AA g hV hs hz
              have gD : wr.grownBy W0 none := grown_trans (grown_drew (World.grownBy.refl _ none)) g
              have e07 := hz 7 (.int .i64 (k : Int)) (by kernel_rfl) rfl
              clear hV hs hz
              refine outO_val (v := .int .i64 (k : Int)) (w' := W0) ?_ (World.grownBy.refl _ _) rfl
              simp [go_sem, e07]
            · intro VV W0 AA g hV hs hz
              have gD : wr.grownBy W0 none := grown_trans (grown_drew (World.grownBy.refl _ none)) g
              have q9 : VV 9 = .slice (some ⟨b, off, none⟩) K c := hV 9 (by kernel_rfl)
              have e9 := hs 97 9 (by kernel_rfl) (by kernel_rfl)
              have q10 : VV 10 = .int .i64 (k : Int) := hV 10 (by kernel_rfl)
              have e10 := hs 98 10 (by kernel_rfl) (by kernel_rfl)
              clear hV hs hz
              refine outO_val (v := .pointer (some ⟨b, off + k * 3, none⟩)) (w' := W0) ?_ (World.grownBy.refl _ _) rfl
              simp [go_sem, q9, e9, q10, e10, hkK']
            · intro VV W0 AA g hV hs hz
              have gD : wr.grownBy W0 none := grown_trans (grown_drew (World.grownBy.refl _ none)) g
              have q11 : VV 11 = .pointer (some ⟨b, off + k * 3, none⟩) := hV 11 (by kernel_rfl)
              have e11 := hs 99 11 (by kernel_rfl) (by kernel_rfl)
              clear hV hs hz
              refine outO_val (v := .pointer (some ⟨b, off + k * 3 + 1, none⟩)) (w' := W0) ?_ (World.grownBy.refl _ _) rfl
              simp [go_sem, q11, e11]
            · intro VV W0 AA g hV hs hz
              have gD : wr.grownBy W0 none := grown_trans (grown_drew (World.grownBy.refl _ none)) g
              have q12 : VV 12 = .pointer (some ⟨b, off + k * 3 + 1, none⟩) := hV 12 (by kernel_rfl)
              have e12 := hs 100 12 (by kernel_rfl) (by kernel_rfl)
              have x0 := gD.cell c1 (by simp)
              clear hV hs hz
              refine outO_val (v := .slice ma m mc) (w' := W0) ?_ (World.grownBy.refl _ _) rfl
              simp [go_sem, q12, e12, x0]
            · intro VV W0 AA g hV hs hz
              have gD : wr.grownBy W0 none := grown_trans (grown_drew (World.grownBy.refl _ none)) g
              have q13 : VV 13 = .slice ma m mc := hV 13 (by kernel_rfl)
              have e13 := hs 101 13 (by kernel_rfl) (by kernel_rfl)
              clear hV hs hz
              refine outO_val (v := .int .i64 (m : Int)) (w' := W0) ?_ (World.grownBy.refl _ _) rfl
              simp [go_sem, q13, e13]
            · intro VV W0 AA g hV hs hz
              have gD : wr.grownBy W0 none := grown_trans (grown_drew (World.grownBy.refl _ none)) g
              have e01 := hz 1 (.slice (some ⟨b, off, none⟩) K c) (by kernel_rfl) rfl
              clear hV hs hz
              refine outO_val (v := .slice (some ⟨b, off, none⟩) K c) (w' := W0) ?_ (World.grownBy.refl _ _) rfl
              simp [go_sem, e01]
            · intro VV W0 AA g hV hs hz
              have gD : wr.grownBy W0 none := grown_trans (grown_drew (World.grownBy.refl _ none)) g
              have q15 : VV 15 = .slice (some ⟨b, off, none⟩) K c := hV 15 (by kernel_rfl)
              have e15 := hs 103 15 (by kernel_rfl) (by kernel_rfl)
              clear hV hs hz
              refine outO_val (v := .int .i64 (K : Int)) (w' := W0) ?_ (World.grownBy.refl _ _) rfl
              simp [go_sem, q15, e15]
            · intro VV W0 AA g hV hs hz
              have gD : wr.grownBy W0 none := grown_trans (grown_drew (World.grownBy.refl _ none)) g
              have q0 : VV 0 = .int .i64 2 := hV 0 (by kernel_rfl)
              have e0 := hs 88 0 (by kernel_rfl) (by kernel_rfl)
              have q8 : VV 8 = .agg #[.int .i64 v.op, .int .i64 v.a, .int .i64 v.b, .int .i64 v.c, .int .i64 v.k, .int .i64 v.sub, .int .i64 v.scale, .int .i64 v.imm, .int .i64 v.label] := hV 8 (by kernel_rfl)
              have e8 := hs 96 8 (by kernel_rfl) (by kernel_rfl)
              have q14 : VV 14 = .int .i64 (m : Int) := hV 14 (by kernel_rfl)
              have e14 := hs 102 14 (by kernel_rfl) (by kernel_rfl)
              have q16 : VV 16 = .int .i64 (K : Int) := hV 16 (by kernel_rfl)
              have e16 := hs 104 16 (by kernel_rfl) (by kernel_rfl)
              clear hV hs hz
              refine outO_call (f := 27) ?_ ((HMi.out W0).mono fun e w2 ⟨he, hg⟩ => ⟨_, he, hg, rfl⟩)
              simp [go_sem, q0, e0, q8, e8, q14, e14, q16, e16]
          · intro VV W0 g hV
            have gD : wr.grownBy W0 none := grown_trans (grown_drew (World.grownBy.refl _ none)) g
            have h0 : VV 0 = .int .i64 2 := hV 0 (by decide)
            have h1 : VV 1 = .slice (some ⟨b, off, none⟩) K c := hV 1 (by decide)
            have h2 : VV 2 = .int .i64 (k : Int) := hV 2 (by decide)
            have h3 : VV 3 = .pointer (some ⟨b, off + k * 3, none⟩) := hV 3 (by decide)
            have h4 : VV 4 = .pointer (some ⟨b, off + k * 3, none⟩) := hV 4 (by decide)
            have h5 : VV 5 = .slice (some ⟨ib, io, none⟩) n ic := hV 5 (by decide)
            have h6 : VV 6 = .int .i64 (i : Int) := hV 6 (by decide)
            have h7 : VV 7 = .pointer (some ⟨ib, io + i * 9, none⟩) := hV 7 (by decide)
            have h8 : VV 8 = .agg #[.int .i64 v.op, .int .i64 v.a, .int .i64 v.b, .int .i64 v.c, .int .i64 v.k, .int .i64 v.sub, .int .i64 v.scale, .int .i64 v.imm, .int .i64 v.label] := hV 8 (by decide)
            have h9 : VV 9 = .slice (some ⟨b, off, none⟩) K c := hV 9 (by decide)
            have h10 : VV 10 = .int .i64 (k : Int) := hV 10 (by decide)
            have h11 : VV 11 = .pointer (some ⟨b, off + k * 3, none⟩) := hV 11 (by decide)
            have h12 : VV 12 = .pointer (some ⟨b, off + k * 3 + 1, none⟩) := hV 12 (by decide)
            have h13 : VV 13 = .slice ma m mc := hV 13 (by decide)
            have h14 : VV 14 = .int .i64 (m : Int) := hV 14 (by decide)
            have h15 : VV 15 = .slice (some ⟨b, off, none⟩) K c := hV 15 (by decide)
            have h16 : VV 16 = .int .i64 (K : Int) := hV 16 (by decide)
            have h17 : VV 17 = .bool true := hV 17 (by decide)
            simp [frV, dstOf, Act.put, h0, h1, h2, h3, h4, h5, h6, h7, h8, h9, h10, h11, h12, h13, h14, h15, h16, h17]
            clear h0 h1 h2 h3 h4 h5 h6 h7 h8 h9 h10 h11 h12 h13 h14 h15 h16 h17 hV g
            have GR : Hid (wr.grownBy W0 none) := gD
            clear gD
            go_wp2_with fail
            go_roundw
            case rel => exact ⟨i + 1, by go_num, by omega, grown_trans HGr.out GR.out⟩
            case measure => simp [intOf]; omega
end Go.Proofs.YtkiockffejlnhaaGreatDoor

/- Heavy. -/
namespace Go.Proofs.YtkiockffejlnhaaGreatDoor
open Go.RowKit
set_option linter.unusedVariables false
def HvR6 (n : Nat) (e : Ending) : Prop := ∃ b, e = .returned (.bool b) ∧ (b = false → n ≤ 3000)
set_option maxRecDepth 100000 in
set_option maxHeartbeats 4000000 in
theorem heavy6_any {N : Nat} {w : World} {a : Option Addr} {K c : Nat} {V : Nat → Lk.PcV} {A : Nat → PcA} (h : PcsIn N w a K c V A) (hz : K * 56 ≤ reachBytes) (ib : ∀ k, k < K → (V k).n * 72 ≤ reachBytes) (mb : ∀ k, k < K → (V k).m * 8 ≤ reachBytes) :
    Calls Tryz.prog 5 #[.slice a K c] w fun e w' => HvR6 K e ∧ w.grownBy w' none := by
  have hle := h.le
  have hmx := h.max
  unfold maxLen at hmx
  have hz' : K * 56 ≤ 140737488351232 := hz
  have hn' : (K : Int) ≤ 140737488351232 := by omega
  have HT : Hid (∀ W, w.grownBy W none → PcsIn N W a K c V A) := fun W g => h.ch (l := []) (Ch.of g) (by simp)
  have HF : Hid (∀ i, i < K → ((V i).n : Int) ≤ 140737488351232 ∧ ((V i).m : Int) ≤ 140737488351232) := fun i hi => by have h1 : (V i).n * 72 ≤ 140737488351232 := ib i hi; have h2 : (V i).m * 8 ≤ 140737488351232 := mb i hi; omega
  clear h ib mb hz hz'
  go_enter Tryz.func5, Tryz.ntmps5
  go_wp2_with fail
  go_loopw [3, 4] (fun z ix wr => ∃ (k : Nat) (y : Int), ix = .int .i64 k ∧ z = .int .i64 y ∧ k ≤ K ∧ (K : Int) ≤ y ∧ y ≤ 4611686018427387904 ∧ w.grownBy wr none) (fun _ ix _ => K - (intOf ix).toNat)
  case atStart => exact ⟨0, K, rfl, rfl, Nat.zero_le _, Int.le_refl _, by omega, World.grownBy.refl _ _⟩
  case round =>
    obtain ⟨k, y, rfl, rfl, hk, hy1, hy2, hg⟩ := hrel
    have HG : Hid (w.grownBy wr none) := hg
    by_cases hkn : k < K
    · have hkn' : (k : Int) < K := by omega
      by_cases hy : y < 3000
      · obtain ⟨b, off, rfl, hb, hty⟩ := (HT.out _ hg).at hkn
        have hfk := HF.out k hkn
        have c0 := hty.c0
        have c1 := hty.c1
        clear hty hg
        generalize V k = x at *
        generalize A k = y9 at *
        have hw1 : IntKind.i64.wrap (y + x.n) = y + x.n := by rw [IntKind.wrap_i64]; omega
        have hw2 : IntKind.i64.wrap (y + x.n + x.m) = y + x.n + x.m := by rw [IntKind.wrap_i64]; omega
        go_wp2_with fail
        go_quiet (fail)
        go_wp2_with fail
        go_roundw
        case rel => exact ⟨k + 1, y + x.n + x.m, by go_num, by go_num, by omega, by omega, by omega, grown_drewN HG.out _⟩
        case measure => simp [intOf]; omega
      · go_wp2
        go_ret
        refine ⟨⟨_, rfl, fun e => ?_⟩, HG.out⟩
        simp at e
        omega
    · obtain rfl : k = K := by omega
      go_wp2
      go_ret
      refine ⟨⟨_, rfl, fun e => ?_⟩, HG.out⟩
      simp at e
      omega
end Go.Proofs.YtkiockffejlnhaaGreatDoor
