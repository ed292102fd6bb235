/- link's measure: the least size of each instruction, or that one may not be. -/
import Derived.Test.YtkiockffejlnhaaGreatDoorLkGrow
import Derived.Test.YtkiockffejlnhaaGreatDoorG7
namespace Go.Proofs.YtkiockffejlnhaaGreatDoor
set_option maxRecDepth 100000
set_option maxHeartbeats 32000000
open Go.RowKit
set_option linter.unusedVariables false
namespace Lk
def instsB (t p : Int) (P : PcV) : Bool := (List.range P.n).all fun i => instB t P.m p (P.I i)
theorem instsB_iff {t p : Int} {P : PcV} : instsB t p P = true ↔ ∀ i, i < P.n → instB t P.m p (P.I i) = true := by unfold instsB; simp
theorem instsB_no {t p : Int} {P : PcV} {i : Nat} (hi : i < P.n) (h : instB t P.m p (P.I i) = false) : instsB t p P = false := by
 cases hb : instsB t p P
 ·rfl
 ·rw [instsB_iff.1 hb i hi] at h
  cases h
end Lk
def psiV (vals : List Value) (i : Nat) (v : Value) (w : World) : Prop := v = vals.getD i undef
theorem psiV_eq {vals : List Value} {i : Nat} {v x : Value} {w : World} (h : psiV vals i v w) (e : vals[i]? = some x) : v = x := by
 unfold psiV at h
 rw [h, List.getD_eq_getElem?_getD, e]
 rfl
theorem InstAt.ch {w w' : World} {l : List Nat} {B : Nat} {v : InV} (h : InstAt w B v) (hg : w.grownBy w' none) : InstAt w' B v := h.kept hg (by simp)
theorem Pt.set {N : Nat} {w : World} {B fe : Nat} {P : Lk.PcV} {ia ma : Option Addr} {ic mc : Nat} {sv : Value} (h : Pt N w B fe P ia ma ic mc sv) (sv' : Value) : Pt N (w.setCell ⟨B, 3, none⟩ sv') B fe P ia ma ic mc sv' := by
 have hC : Ch w (w.setCell ⟨B, 3, none⟩ sv') [B] := Ch.one (grown_set _ _ _ _) (by simp)
 have hl : ∀ k, k ∈ [B] → N ≤ k := by intro k hk; simp at hk; rw [hk]; exact h.nb
 refine ⟨?_, h.ins.ch hC hl, h.mks.ch hC hl, h.nb⟩
 obtain ⟨hlt, hk⟩ := Array.getElem?_eq_some_iff.1 h.blk
 show (w.heap.modify B _)[B]? = _
 rw [Array.getElem?_eq_getElem (by rw [Array.size_modify]; exact hlt), Array.getElem_modify_self, hk]
 rfl
theorem pmeas_r {N : Nat} {w : World} {B : Nat} {P : Lk.PcV} {ia ma : Option Addr} {ic mc : Nat} (p : Int) (h : Pt N w B 60 P ia ma ic mc (.slice none 0 0)) (hTab : TabAt w) (hTN : 2 < N) (hn : (P.n : Int) ≤ 8796093022208) :
  Calls Tryz.prog 40 #[.pointer (some ⟨B, 0, none⟩), .int .i64 p] w fun e w' => e = .returned (.bool (Lk.instsB 1 p P)) ∧ Ch w w' [B] ∧
   (Lk.instsB 1 p P = true → Pt N w' B 60 P ia ma ic mc (.slice (some ⟨w.heap.size, 0, none⟩) P.n P.n) ∧ OwnN w' N (.slice (some ⟨w.heap.size, 0, none⟩) P.n P.n) P.n (P.sh 1).s) := by
 have hNw : N ≤ w.heap.size := by have := h.nb; have := h.lt; omega
 have hBw := h.lt
 have hNB := h.nb
 obtain ⟨w1, hmk, ho1, hg1⟩ := run_make_n w P.n hn
 have f3 : w1.frozen? ⟨B, 3, none⟩ = false := (h.grow hg1).fz 3
 have c1 := h.c1
 have c31 := (h.grow hg1).c3
 have HP0 : Hid (Pt N (w1.setCell ⟨B, 3, none⟩ (.slice (some ⟨w.heap.size, 0, none⟩) P.n P.n)) B 60 P ia ma ic mc (.slice (some ⟨w.heap.size, 0, none⟩) P.n P.n)) := (h.grow hg1).set _
 have c12 := HP0.out.c1
 have HC0 : Hid (Ch w (w1.setCell ⟨B, 3, none⟩ (.slice (some ⟨w.heap.size, 0, none⟩) P.n P.n)) [B]) := (Ch.of hg1).trans (Ch.one (grown_set _ _ _ _) (by simp))
 have HO0 : Hid (OwnN (w1.setCell ⟨B, 3, none⟩ (.slice (some ⟨w.heap.size, 0, none⟩) P.n P.n)) w.heap.size (.slice (some ⟨w.heap.size, 0, none⟩) P.n P.n) P.n (fun _ => 0)) := ho1.kept (grown_set _ _ _ _) (.inr (by simp [Value.ownBlock]; omega))
 have HTb : Hid (TabAt w) := hTab
 have HNo : Hid (∀ i, i < P.n → Lk.instB 1 P.m p (P.I i) = false → Lk.instsB 1 p P = false) := fun i hi hf => Lk.instsB_no hi hf
 have HYes : Hid ((∀ i, i < P.n → Lk.instB 1 P.m p (P.I i) = true) → Lk.instsB 1 p P = true) := Lk.instsB_iff.2
 have HSz : Hid (∀ i, (P.sh 1).s i = ((Ru.encT 1 (Lk.bare (P.I i))).length : Int)) := fun i => rfl
 clear h hTab ho1 hg1
 obtain ⟨R, hR⟩ : ∃ R, R = Lk.instsB 1 p P := ⟨_, rfl⟩
 obtain ⟨Ss, hSs⟩ : ∃ Ss, Ss = (P.sh 1).s := ⟨_, rfl⟩
 rw [← hR] at HNo HYes ⊢
 rw [← hSs] at HSz ⊢
 clear hR hSs
 obtain ⟨n, hnn⟩ : ∃ n, n = P.n := ⟨_, rfl⟩
 rw [← hnn] at hn hmk c1 HP0 c12 HC0 HO0 HNo HYes ⊢
 have HNn : Hid (n = P.n) := hnn
 clear hnn
 obtain ⟨S0, hS0⟩ : ∃ S0, S0 = w.heap.size := ⟨_, rfl⟩
 rw [← hS0] at hmk HP0 c12 HC0 HO0 ⊢
 have hSw : S0 ≤ w.heap.size ∧ w.heap.size ≤ S0 := ⟨Nat.le_of_eq hS0, Nat.le_of_eq hS0.symm⟩
 have hNS : N ≤ S0 := by omega
 have hBS : B ≠ S0 := by omega
 clear hS0
 go_enter Tryz.func40, Tryz.ntmps40
 go_wp2_with fail
 go_loopw [23] (fun i wr => ∃ k : Nat, i = .int .i64 k ∧ k ≤ n ∧ Pt N wr B 60 P ia ma ic mc (.slice (some ⟨S0, 0, none⟩) n n) ∧ OwnN wr S0 (.slice (some ⟨S0, 0, none⟩) n n) n (fun i => if i < k then Ss i else 0) ∧ Ch w wr [B] ∧ (∀ i, i < k → Lk.instB 1 P.m p (P.I i) = true)) (fun i _ => n - (intOf i).toNat)
 case atStart => exact ⟨0, rfl, Nat.zero_le _, HP0.out, HO0.out.congr (fun i _ => by simp), HC0.out, fun i hi => by omega⟩
 case round =>
  obtain ⟨k, rfl, hk, hpt, hoS, hch, hall⟩ := hrel
  have HPt : Hid (Pt N wr B 60 P ia ma ic mc (.slice (some ⟨S0, 0, none⟩) n n)) := hpt
  have HOS : Hid (OwnN wr S0 (.slice (some ⟨S0, 0, none⟩) n n) n (fun i => if i < k then Ss i else 0)) := hoS
  have HCH : Hid (Ch w wr [B]) := hch
  have HAL : Hid (∀ i, i < k → Lk.instB 1 P.m p (P.I i) = true) := hall
  have hSr : S0 < wr.heap.size := hoS.lt S0 rfl
  have hBr : B < wr.heap.size := hpt.lt
  clear hoS hch hall
  by_cases hkn : k < n
  ·have hkn' : (k : Int) < n := by omega
   obtain ⟨b, off, rfl, hb, hin, hrng⟩ := hpt.ins.at (i := k) (by rw [← HNn.out]; exact hkn)
   obtain ⟨v, hv⟩ : ∃ v, v = P.I k := ⟨_, rfl⟩
   rw [← hv] at hin hrng
   have HTw : Hid (∀ W, wr.grownBy W none → TabAt W) := fun W g => (HTb.out.ch HCH.out (by simp; omega)).kept g (by simp)
   have HLb : Hid (∀ W, wr.grownBy W none → Calls Tryz.prog 62 #[.pointer (some ⟨B, 0, none⟩), .agg #[.int .i64 v.op, .int .i64 v.a, .int .i64 v.b, .int .i64 v.c, .int .i64 v.k, .int .i64 v.sub, .int .i64 v.scale, .int .i64 v.imm, .int .i64 v.label], .int .i64 p] W fun e w' => e = .returned (.bool (Lk.labB P.m p v)) ∧ W.grownBy w' none) := fun W g => plabel_any (HPt.out.grow g) v p
   have HI : Hid (Lk.instB 1 P.m p (P.I k) = (Lk.labB P.m p v && Ru.mayT 1 (Lk.bare v))) := by rw [hv]; rfl
   have HSk : Hid (Ss k = ((Ru.encT 1 (Lk.bare v)).length : Int)) := by rw [hv]; exact HSz.out k
   have hrb : InRng (Lk.bare v) := ⟨hrng.i1, hrng.i2, hrng.s1, hrng.s2⟩
   obtain ⟨d0, d1, d2, d3, d4, d5, d6, d7, d8⟩ := hin
   have IN := InstAt.new wr v
   have hA := World.grownBy_alloc wr (Obj.cells #[.int .i64 v.op, .int .i64 v.a, .int .i64 v.b, .int .i64 v.c, .int .i64 v.k, .int .i64 v.sub, .int .i64 v.scale, .int .i64 v.imm, .int .i64 v.label] 50) none
   clear hpt hrng hv
   cases hlb : Lk.labB P.m p v
   ·rw [hlb] at HLb HI
    go_wp2_with (go_at_call 62; refine (HLb.out _ hA).mono ?_; rintro e w4 ⟨rfl, hg4⟩)
    go_ret
    rw [HNo.out k hkn (by rw [HI.out]; rfl)]
    exact ⟨rfl, HCH.out.trans (Ch.of (gtr hA hg4)), fun h => by cases h⟩
   ·rw [hlb] at HLb HI
    simp only [Bool.true_and] at HI
    go_wp2_with (go_at_call 62; refine (HLb.out _ hA).mono ?_; rintro e w4 ⟨rfl, hg4⟩; have z8 := (IN.kept hg4 (by simp)).fz 8; have y8 := (IN.kept hg4 (by simp)).c8)
    have IN5 : InstAt (w4.setCell ⟨wr.heap.size, 8, none⟩ (.int .i64 0)) wr.heap.size (Lk.bare v) := (IN.kept hg4 (by simp)).set8 0
    have HG5 : Hid (wr.grownBy (w4.setCell ⟨wr.heap.size, 8, none⟩ (.int .i64 0)) none) := gs (gtr hA hg4) _ _ (Nat.le_refl _)
    clear hA hg4 d0 d1 d2 d3 d4 d5 d6 d7 d8 IN z8 y8
    obtain ⟨bx, hbx⟩ : ∃ bx, bx = wr.heap.size := ⟨_, rfl⟩
    rw [← hbx] at IN5 HG5 ⊢
    obtain ⟨W5, hW5⟩ : ∃ W5, W5 = w4.setCell ⟨bx, 8, none⟩ (.int .i64 0) := ⟨_, rfl⟩
    rw [← hW5] at IN5 HG5 ⊢
    clear hW5
    have HP5 : Hid (Pt N W5 B 60 P (some ⟨b, off, none⟩) ma ic mc (.slice (some ⟨S0, 0, none⟩) n n)) := HPt.out.grow HG5.out
    have p0 := HP5.out.c0
    obtain ⟨x0, x1, x2, x3, x4, x5, x6, x7, x8, xz⟩ := IN5
    simp only [Lk.bare] at x0 x1 x2 x3 x4 x5 x6 x7 x8
    clear xz
    cases hmt : Ru.mayT 1 (Lk.bare v)
    ·rw [hmt] at HI
     have HEn : Hid (∀ W, W5.grownBy W none → Calls Tryz.prog 60 #[.agg #[.int .i64 v.op, .int .i64 v.a, .int .i64 v.b, .int .i64 v.c, .int .i64 v.k, .int .i64 v.sub, .int .i64 v.scale, .int .i64 v.imm, .int .i64 0]] W fun e w' => e = .returned (.tuple #[.slice none 0 0, .int .i64 30]) ∧ W.grownBy w' none) := fun W g => enc_rn (Lk.bare v) W hrb hmt
     go_cut [7, 8] (fun b e wx => b = .slice none 0 0 ∧ e = .int .i64 30 ∧ W5.grownBy wx none)
     case first =>
      refine region_late 9 8 _ _ _ (psiV [.pointer (some ⟨B, 0, none⟩), .pointer (some ⟨B, 0, none⟩), .pointer (some ⟨B, 0, none⟩), .func (.func 60) #[] #[], .agg #[.int .i64 v.op, .int .i64 v.a, .int .i64 v.b, .int .i64 v.c, .int .i64 v.k, .int .i64 v.sub, .int .i64 v.scale, .int .i64 v.imm, .int .i64 0], .tuple #[.slice none 0 0, .int .i64 30], .tuple #[.slice none 0 0, .int .i64 30], .slice none 0 0, .int .i64 30]) (by kernel_rfl) (by kernel_rfl) rfl rfl rfl (by kernel_rfl) (by kernel_rfl) (fun i x w0 w1 hi h g => h) ?_ ?_ ?_
      ·simp only [List.take_succ_cons, List.take_zero]
       refine ⟨?_, ?_, ?_, ?_, ?_, ?_, ?_, ?_, ?_, trivial⟩
       ·intro V W0 A g hV hs hz
        have gD : W5.grownBy W0 none := gtr (grown_drew (World.grownBy.refl _ none)) g
        have e00 := hz 0 (.pointer (some ⟨B, 0, none⟩)) (by kernel_rfl) rfl
        clear hV hs hz
        refine outO_val (v := .pointer (some ⟨B, 0, none⟩)) (w' := W0) ?_ gr0 rfl
        simp [go_sem, e00]
       ·intro V W0 A g hV hs hz
        have gD : W5.grownBy W0 none := gtr (grown_drew (World.grownBy.refl _ none)) g
        have q0 : V 0 = .pointer (some ⟨B, 0, none⟩) := hV 0 (by kernel_rfl)
        have e0 := hs 35 0 (by kernel_rfl) (by kernel_rfl)
        clear hV hs hz
        refine outO_val (v := .pointer (some ⟨B, 0, none⟩)) (w' := W0) ?_ gr0 rfl
        simp [go_sem, q0, e0]
       ·intro V W0 A g hV hs hz
        have gD : W5.grownBy W0 none := gtr (grown_drew (World.grownBy.refl _ none)) g
        have q1 : V 1 = .pointer (some ⟨B, 0, none⟩) := hV 1 (by kernel_rfl)
        have e1 := hs 36 1 (by kernel_rfl) (by kernel_rfl)
        clear hV hs hz
        refine outO_val (v := .pointer (some ⟨B, 0, none⟩)) (w' := W0) ?_ gr0 rfl
        simp [go_sem, q1, e1]
       ·intro V W0 A g hV hs hz
        have gD : W5.grownBy W0 none := gtr (grown_drew (World.grownBy.refl _ none)) g
        have q2 : V 2 = .pointer (some ⟨B, 0, none⟩) := hV 2 (by kernel_rfl)
        have e2 := hs 37 2 (by kernel_rfl) (by kernel_rfl)
        have x0 := gD.cell p0 (by simp)
        clear hV hs hz
        refine outO_val (v := .func (.func 60) #[] #[]) (w' := W0) ?_ gr0 rfl
        simp [go_sem, q2, e2, x0]
       ·intro V W0 A g hV hs hz
        have gD : W5.grownBy W0 none := gtr (grown_drew (World.grownBy.refl _ none)) g
        have e06 := hz 6 (.pointer (some ⟨bx, 0, none⟩)) (by kernel_rfl) rfl
        have x0 := gD.cell x0 (by simp)
        have x1 := gD.cell x1 (by simp)
        have x2 := gD.cell x2 (by simp)
        have x3 := gD.cell x3 (by simp)
        have x4 := gD.cell x4 (by simp)
        have x5 := gD.cell x5 (by simp)
        have x6 := gD.cell x6 (by simp)
        have x7 := gD.cell x7 (by simp)
        have x8 := gD.cell x8 (by simp)
        clear hV hs hz
        refine outO_val (v := .agg #[.int .i64 v.op, .int .i64 v.a, .int .i64 v.b, .int .i64 v.c, .int .i64 v.k, .int .i64 v.sub, .int .i64 v.scale, .int .i64 v.imm, .int .i64 0]) (w' := W0) ?_ gr0 rfl
        simp [go_sem, e06, x0, x1, x2, x3, x4, x5, x6, x7, x8]
       ·intro V W0 A g hV hs hz
        have gD : W5.grownBy W0 none := gtr (grown_drew (World.grownBy.refl _ none)) g
        have q3 : V 3 = .func (.func 60) #[] #[] := hV 3 (by kernel_rfl)
        have e3 := hs 38 3 (by kernel_rfl) (by kernel_rfl)
        have q4 : V 4 = .agg #[.int .i64 v.op, .int .i64 v.a, .int .i64 v.b, .int .i64 v.c, .int .i64 v.k, .int .i64 v.sub, .int .i64 v.scale, .int .i64 v.imm, .int .i64 0] := hV 4 (by kernel_rfl)
        have e4 := hs 39 4 (by kernel_rfl) (by kernel_rfl)
        clear hV hs hz
        refine outO_call (f := 60) ?_ ((HEn.out W0 gD).mono fun e w2 ⟨he, hg⟩ => ⟨_, he, hg, rfl⟩)
        simp [go_sem, q3, e3, q4, e4]
       ·intro V W0 A g hV hs hz
        have gD : W5.grownBy W0 none := gtr (grown_drew (World.grownBy.refl _ none)) g
        have q5 : V 5 = .tuple #[.slice none 0 0, .int .i64 30] := hV 5 (by kernel_rfl)
        have e5 := hs 40 5 (by kernel_rfl) (by kernel_rfl)
        clear hV hs hz
        refine outO_val (v := .tuple #[.slice none 0 0, .int .i64 30]) (w' := W0) ?_ gr0 rfl
        simp [go_sem, q5, e5]
       ·intro V W0 A g hV hs hz
        have gD : W5.grownBy W0 none := gtr (grown_drew (World.grownBy.refl _ none)) g
        have q6 : V 6 = .tuple #[.slice none 0 0, .int .i64 30] := hV 6 (by kernel_rfl)
        have e6 := hs 34 6 (by kernel_rfl) (by kernel_rfl)
        clear hV hs hz
        refine outO_val (v := .slice none 0 0) (w' := W0) ?_ gr0 rfl
        simp [go_sem, q6, e6]
       ·intro V W0 A g hV hs hz
        have gD : W5.grownBy W0 none := gtr (grown_drew (World.grownBy.refl _ none)) g
        have q6 : V 6 = .tuple #[.slice none 0 0, .int .i64 30] := hV 6 (by kernel_rfl)
        have e6 := hs 34 6 (by kernel_rfl) (by kernel_rfl)
        clear hV hs hz
        refine outO_val (v := .int .i64 30) (w' := W0) ?_ gr0 rfl
        simp [go_sem, q6, e6]
      ·intro V W0 g hV
       have gD : W5.grownBy W0 none := gtr (grown_drew (World.grownBy.refl _ none)) g
       have h0 : V 0 = .pointer (some ⟨B, 0, none⟩) := hV 0 (by decide)
       have h1 : V 1 = .pointer (some ⟨B, 0, none⟩) := hV 1 (by decide)
       have h2 : V 2 = .pointer (some ⟨B, 0, none⟩) := hV 2 (by decide)
       have h3 : V 3 = .func (.func 60) #[] #[] := hV 3 (by decide)
       have h4 : V 4 = .agg #[.int .i64 v.op, .int .i64 v.a, .int .i64 v.b, .int .i64 v.c, .int .i64 v.k, .int .i64 v.sub, .int .i64 v.scale, .int .i64 v.imm, .int .i64 0] := hV 4 (by decide)
       have h5 : V 5 = .tuple #[.slice none 0 0, .int .i64 30] := hV 5 (by decide)
       have h6 : V 6 = .tuple #[.slice none 0 0, .int .i64 30] := hV 6 (by decide)
       have h7 : V 7 = .slice none 0 0 := hV 7 (by decide)
       have h8 : V 8 = .int .i64 30 := hV 8 (by decide)
       simp [frV, dstOf, Act.put, h0, h1, h2, h3, h4, h5, h6, h7, h8]
       clear h0 h1 h2 h3 h4 h5 h6 h7 h8 hV g
       have GR : Hid (W5.grownBy W0 none) := gD
       clear gD
       go_wp2_with fail
       go_meet
       exact ⟨rfl, rfl, GR.out⟩
      ·intro V W0 g hV hold
       have gD : W5.grownBy W0 none := gtr (grown_drew (World.grownBy.refl _ none)) g
       have h0 : V 0 = .pointer (some ⟨B, 0, none⟩) := hV 0 (by decide) (by decide)
       have h1 : V 1 = .pointer (some ⟨B, 0, none⟩) := hV 1 (by decide) (by decide)
       have h2 : V 2 = .pointer (some ⟨B, 0, none⟩) := hV 2 (by decide) (by decide)
       have h3 : V 3 = .func (.func 60) #[] #[] := hV 3 (by decide) (by decide)
       have h4 : V 4 = .agg #[.int .i64 v.op, .int .i64 v.a, .int .i64 v.b, .int .i64 v.c, .int .i64 v.k, .int .i64 v.sub, .int .i64 v.scale, .int .i64 v.imm, .int .i64 0] := hV 4 (by decide) (by decide)
       have h5 : V 5 = .tuple #[.slice none 0 0, .int .i64 30] := hV 5 (by decide) (by decide)
       have h6 : V 6 = .tuple #[.slice none 0 0, .int .i64 30] := hV 6 (by decide) (by decide)
       have h7 : V 7 = .slice none 0 0 := hV 7 (by decide) (by decide)
       obtain ⟨y, h8⟩ : ∃ y, V 8 = y := ⟨_, rfl⟩
       simp [frV, dstOf, Act.put, h0, h1, h2, h3, h4, h5, h6, h7, h8]
       clear h0 h1 h2 h3 h4 h5 h6 h7 h8 hV g hold
       have GR : Hid (W5.grownBy W0 none) := gD
       clear gD
       go_wp2_with fail
       go_meet
       exact ⟨rfl, rfl, GR.out⟩
     case rest =>
      obtain ⟨rfl, rfl, g⟩ := hcut
      clear x0 x1 x2 x3 x4 x5 x6 x7 x8 p0 HEn
      go_wp2
      go_ret
      rw [HNo.out k hkn HI.out]
      exact ⟨rfl, HCH.out.trans (Ch.of (gtr HG5.out g)), fun h => by cases h⟩
    ·rw [hmt] at HI
     obtain ⟨SS, hSS⟩ : ∃ SS, SS = Ru.encT 1 (Lk.bare v) := ⟨_, rfl⟩
     rw [← hSS] at HSk
     have HEn : Hid (∀ W, W5.grownBy W none → Calls Tryz.prog 60 #[.agg #[.int .i64 v.op, .int .i64 v.a, .int .i64 v.b, .int .i64 v.c, .int .i64 v.k, .int .i64 v.sub, .int .i64 v.scale, .int .i64 v.imm, .int .i64 0]] W fun e w' => ∃ T' c', e = .returned (.tuple #[.slice (some ⟨T', 0, none⟩) SS.length c', .int .i64 0]) ∧ OwnL w' W.heap.size (.slice (some ⟨T', 0, none⟩) SS.length c') SS ∧ W.grownBy w' none) := fun W g => by rw [hSS]; exact enc_r (Lk.bare v) W hrb hmt
     have hSl : SS.length ≤ 33 := by rw [hSS]; exact (Ru.encT_len 1 (Lk.bare v)).2
     clear hSS
     go_cut [7, 8] (fun b e wx => ∃ T' c', b = .slice (some ⟨T', 0, none⟩) SS.length c' ∧ e = .int .i64 0 ∧ W5.grownBy wx none)
     case first =>
      refine region_late 9 8 _ _ _ (psiE [.pointer (some ⟨B, 0, none⟩), .pointer (some ⟨B, 0, none⟩), .pointer (some ⟨B, 0, none⟩), .func (.func 60) #[] #[], .agg #[.int .i64 v.op, .int .i64 v.a, .int .i64 v.b, .int .i64 v.c, .int .i64 v.k, .int .i64 v.sub, .int .i64 v.scale, .int .i64 v.imm, .int .i64 0]] W5.heap.size SS) (by kernel_rfl) (by kernel_rfl) rfl rfl rfl (by kernel_rfl) (by kernel_rfl) (fun i x w0 w1 hi h g => psiE_stable h g) ?_ ?_ ?_
      ·simp only [List.take_succ_cons, List.take_zero]
       refine ⟨?_, ?_, ?_, ?_, ?_, ?_, ?_, ?_, ?_, trivial⟩
       ·intro V W0 A g hV hs hz
        have gD : W5.grownBy W0 none := gtr (grown_drew (World.grownBy.refl _ none)) g
        have e00 := hz 0 (.pointer (some ⟨B, 0, none⟩)) (by kernel_rfl) rfl
        clear hV hs hz
        refine outO_val (v := .pointer (some ⟨B, 0, none⟩)) (w' := W0) ?_ gr0 (psiE_mk (by simp) rfl)
        simp [go_sem, e00]
       ·intro V W0 A g hV hs hz
        have gD : W5.grownBy W0 none := gtr (grown_drew (World.grownBy.refl _ none)) g
        have q0 : V 0 = .pointer (some ⟨B, 0, none⟩) := psiE_f (hV 0 (by kernel_rfl)) (by simp)
        have e0 := hs 35 0 (by kernel_rfl) (by kernel_rfl)
        clear hV hs hz
        refine outO_val (v := .pointer (some ⟨B, 0, none⟩)) (w' := W0) ?_ gr0 (psiE_mk (by simp) rfl)
        simp [go_sem, q0, e0]
       ·intro V W0 A g hV hs hz
        have gD : W5.grownBy W0 none := gtr (grown_drew (World.grownBy.refl _ none)) g
        have q1 : V 1 = .pointer (some ⟨B, 0, none⟩) := psiE_f (hV 1 (by kernel_rfl)) (by simp)
        have e1 := hs 36 1 (by kernel_rfl) (by kernel_rfl)
        clear hV hs hz
        refine outO_val (v := .pointer (some ⟨B, 0, none⟩)) (w' := W0) ?_ gr0 (psiE_mk (by simp) rfl)
        simp [go_sem, q1, e1]
       ·intro V W0 A g hV hs hz
        have gD : W5.grownBy W0 none := gtr (grown_drew (World.grownBy.refl _ none)) g
        have q2 : V 2 = .pointer (some ⟨B, 0, none⟩) := psiE_f (hV 2 (by kernel_rfl)) (by simp)
        have e2 := hs 37 2 (by kernel_rfl) (by kernel_rfl)
        have x0 := gD.cell p0 (by simp)
        clear hV hs hz
        refine outO_val (v := .func (.func 60) #[] #[]) (w' := W0) ?_ gr0 (psiE_mk (by simp) rfl)
        simp [go_sem, q2, e2, x0]
       ·intro V W0 A g hV hs hz
        have gD : W5.grownBy W0 none := gtr (grown_drew (World.grownBy.refl _ none)) g
        have e06 := hz 6 (.pointer (some ⟨bx, 0, none⟩)) (by kernel_rfl) rfl
        have x0 := gD.cell x0 (by simp)
        have x1 := gD.cell x1 (by simp)
        have x2 := gD.cell x2 (by simp)
        have x3 := gD.cell x3 (by simp)
        have x4 := gD.cell x4 (by simp)
        have x5 := gD.cell x5 (by simp)
        have x6 := gD.cell x6 (by simp)
        have x7 := gD.cell x7 (by simp)
        have x8 := gD.cell x8 (by simp)
        clear hV hs hz
        refine outO_val (v := .agg #[.int .i64 v.op, .int .i64 v.a, .int .i64 v.b, .int .i64 v.c, .int .i64 v.k, .int .i64 v.sub, .int .i64 v.scale, .int .i64 v.imm, .int .i64 0]) (w' := W0) ?_ gr0 (psiE_mk (by simp) rfl)
        simp [go_sem, e06, x0, x1, x2, x3, x4, x5, x6, x7, x8]
       ·intro V W0 A g hV hs hz
        have gD : W5.grownBy W0 none := gtr (grown_drew (World.grownBy.refl _ none)) g
        have q3 : V 3 = .func (.func 60) #[] #[] := psiE_f (hV 3 (by kernel_rfl)) (by simp)
        have e3 := hs 38 3 (by kernel_rfl) (by kernel_rfl)
        have q4 : V 4 = .agg #[.int .i64 v.op, .int .i64 v.a, .int .i64 v.b, .int .i64 v.c, .int .i64 v.k, .int .i64 v.sub, .int .i64 v.scale, .int .i64 v.imm, .int .i64 0] := psiE_f (hV 4 (by kernel_rfl)) (by simp)
        have e4 := hs 39 4 (by kernel_rfl) (by kernel_rfl)
        clear hV hs hz
        refine outO_call (f := 60) ?_ (psi_call (by have := g.size; exact this) (by simp) (by simp) (HEn.out W0 gD))
        simp [go_sem, q3, e3, q4, e4]
       ·intro V W0 A g hV hs hz
        obtain ⟨T1, k1, h1, o1⟩ := psiE_t (hV 5 (by kernel_rfl)) (by simp) (by simp)
        have e1 := hs 40 5 (by kernel_rfl) (by kernel_rfl)
        clear hV hs hz
        refine outO_val (v := V 5) (w' := W0) ?_ gr0 (psiE_mt (by simp) (by simp) ⟨T1, k1, h1, o1⟩)
        simp [go_sem, e1]
       ·intro V W0 A g hV hs hz
        obtain ⟨T1, k1, h1, o1⟩ := psiE_t (hV 6 (by kernel_rfl)) (by simp) (by simp)
        have e1 := hs 34 6 (by kernel_rfl) (by kernel_rfl)
        clear hV hs hz
        refine outO_val (v := .slice (some ⟨T1, 0, none⟩) SS.length k1) (w' := W0) ?_ gr0 (psiE_ms (by simp) ⟨T1, k1, rfl, o1⟩)
        simp [go_sem, e1, h1]
       ·intro V W0 A g hV hs hz
        obtain ⟨T1, k1, h1, o1⟩ := psiE_t (hV 6 (by kernel_rfl)) (by simp) (by simp)
        have e1 := hs 34 6 (by kernel_rfl) (by kernel_rfl)
        clear hV hs hz
        refine outO_val (v := .int .i64 0) (w' := W0) ?_ gr0 (psiE_me (by simp) rfl)
        simp [go_sem, e1, h1]
      ·intro V W0 g hV
       have gD : W5.grownBy W0 none := gtr (grown_drew (World.grownBy.refl _ none)) g
       have h0 : V 0 = .pointer (some ⟨B, 0, none⟩) := psiE_f (hV 0 (by decide)) (by simp)
       have h1 : V 1 = .pointer (some ⟨B, 0, none⟩) := psiE_f (hV 1 (by decide)) (by simp)
       have h2 : V 2 = .pointer (some ⟨B, 0, none⟩) := psiE_f (hV 2 (by decide)) (by simp)
       have h3 : V 3 = .func (.func 60) #[] #[] := psiE_f (hV 3 (by decide)) (by simp)
       have h4 : V 4 = .agg #[.int .i64 v.op, .int .i64 v.a, .int .i64 v.b, .int .i64 v.c, .int .i64 v.k, .int .i64 v.sub, .int .i64 v.scale, .int .i64 v.imm, .int .i64 0] := psiE_f (hV 4 (by decide)) (by simp)
       obtain ⟨T1, k1, h5, _⟩ := psiE_t (hV 5 (by decide)) (by simp) (by simp)
       obtain ⟨T2, k2, h6, _⟩ := psiE_t (hV 6 (by decide)) (by simp) (by simp)
       obtain ⟨T3, k3, h7, o3⟩ := psiE_s (hV 7 (by decide)) (by simp)
       have h8 := psiE_e (hV 8 (by decide)) (by simp)
       simp [frV, dstOf, Act.put, h0, h1, h2, h3, h4, h5, h6, h7, h8]
       clear h0 h1 h2 h3 h4 h5 h6 h7 h8 hV g
       have GR : Hid (W5.grownBy W0 none) := gD
       have O3 : Hid (OwnL W0 W5.heap.size (.slice (some ⟨T3, 0, none⟩) SS.length k3) SS) := o3
       clear gD o3
       go_wp2_with fail
       go_meet
       exact ⟨T3, k3, rfl, rfl, GR.out⟩
      ·intro V W0 g hV hold
       have gD : W5.grownBy W0 none := gtr (grown_drew (World.grownBy.refl _ none)) g
       have h0 : V 0 = .pointer (some ⟨B, 0, none⟩) := psiE_f (hV 0 (by decide) (by decide)) (by simp)
       have h1 : V 1 = .pointer (some ⟨B, 0, none⟩) := psiE_f (hV 1 (by decide) (by decide)) (by simp)
       have h2 : V 2 = .pointer (some ⟨B, 0, none⟩) := psiE_f (hV 2 (by decide) (by decide)) (by simp)
       have h3 : V 3 = .func (.func 60) #[] #[] := psiE_f (hV 3 (by decide) (by decide)) (by simp)
       have h4 : V 4 = .agg #[.int .i64 v.op, .int .i64 v.a, .int .i64 v.b, .int .i64 v.c, .int .i64 v.k, .int .i64 v.sub, .int .i64 v.scale, .int .i64 v.imm, .int .i64 0] := psiE_f (hV 4 (by decide) (by decide)) (by simp)
       obtain ⟨T1, k1, h5, _⟩ := psiE_t (hV 5 (by decide) (by decide)) (by simp) (by simp)
       obtain ⟨T2, k2, h6, _⟩ := psiE_t (hV 6 (by decide) (by decide)) (by simp) (by simp)
       obtain ⟨T3, k3, h7, o3⟩ := psiE_s (hV 7 (by decide) (by decide)) (by simp)
       obtain ⟨y, h8⟩ : ∃ y, V 8 = y := ⟨_, rfl⟩
       simp [frV, dstOf, Act.put, h0, h1, h2, h3, h4, h5, h6, h7, h8]
       clear h0 h1 h2 h3 h4 h5 h6 h7 h8 hV g hold
       have GR : Hid (W5.grownBy W0 none) := gD
       have O3 : Hid (OwnL W0 W5.heap.size (.slice (some ⟨T3, 0, none⟩) SS.length k3) SS) := o3
       clear gD o3
       go_wp2_with fail
       go_meet
       exact ⟨T3, k3, rfl, rfl, GR.out⟩
     case rest =>
      obtain ⟨T', c', rfl, rfl, g1⟩ := hcut
      obtain ⟨W6, hwc⟩ : ∃ x, x = wc := ⟨_, rfl⟩
      rw [← hwc] at g1 ⊢
      clear hwc x0 x1 x2 x3 x4 x5 x6 x7 x8 p0 HEn
      have HP6 : Hid (Pt N W6 B 60 P (some ⟨b, off, none⟩) ma ic mc (.slice (some ⟨S0, 0, none⟩) n n)) := HP5.out.grow g1
      have HO6 : Hid (OwnN W6 S0 (.slice (some ⟨S0, 0, none⟩) n n) n (fun i => if i < k then Ss i else 0)) := HOS.out.grow (gtr HG5.out g1)
      have HC6 : Hid (Ch w W6 [B]) := HCH.out.trans (Ch.of (gtr HG5.out g1))
      have c36 := HP6.out.c3
      have f6 := HO6.out.frozen k
      have k6 := HO6.out.cell hkn
      have HO7 : Hid (OwnN (W6.setCell ⟨S0, k, none⟩ (.int .i64 (SS.length : Int))) S0 (.slice (some ⟨S0, 0, none⟩) n n) n (fun i => if i < k + 1 then Ss i else 0)) := (HO6.out.set hkn _).congr (fun i hi => by
       unfold setF
       by_cases e : i = k
       ·subst e; simp [HSk.out]
       ·by_cases h2 : i < k
        ·simp [e, h2, show i < k + 1 by omega]
        ·simp [e, h2, show ¬ i < k + 1 by omega])
      have HC7 : Hid (Ch w (W6.setCell ⟨S0, k, none⟩ (.int .i64 (SS.length : Int))) [B]) := HC6.out.new (b := S0) (by omega) (grown_set _ _ _ _)
      have HP7 : Hid (Pt N (W6.setCell ⟨S0, k, none⟩ (.int .i64 (SS.length : Int))) B 60 P (some ⟨b, off, none⟩) ma ic mc (.slice (some ⟨S0, 0, none⟩) n n)) := HP6.out.ch (l := [S0]) (Ch.one (grown_set _ _ _ _) (by simp)) (by simp; omega) (by simp; omega)
      clear g1
      go_wp2
      go_roundw
      case rel => exact ⟨k + 1, by go_num, by omega, HP7.out, HO7.out, HC7.out, fun i hi => by
       by_cases e : i = k
       ·subst e; exact HI.out
       ·exact HAL.out i (by omega)⟩
      case measure => simp [intOf]; omega
  ·obtain rfl : k = n := by omega
   go_wp2
   go_ret
   have hR := HYes.out HAL.out
   rw [hR]
   exact ⟨rfl, HCH.out, fun _ => ⟨HPt.out, (HOS.out.congr (fun i hi => by simp [hi])).low hNS⟩⟩
theorem pmeas_c {N : Nat} {w : World} {B : Nat} {P : Lk.PcV} {ia ma : Option Addr} {ic mc : Nat} (p : Int) (h : Pt N w B 61 P ia ma ic mc (.slice none 0 0)) (hTab : TabAt w) (hTN : 2 < N) (hn : (P.n : Int) ≤ 8796093022208) :
  Calls Tryz.prog 40 #[.pointer (some ⟨B, 0, none⟩), .int .i64 p] w fun e w' => e = .returned (.bool (Lk.instsB 2 p P)) ∧ Ch w w' [B] ∧
   (Lk.instsB 2 p P = true → Pt N w' B 61 P ia ma ic mc (.slice (some ⟨w.heap.size, 0, none⟩) P.n P.n) ∧ OwnN w' N (.slice (some ⟨w.heap.size, 0, none⟩) P.n P.n) P.n (P.sh 2).s) := by
 have hNw : N ≤ w.heap.size := by have := h.nb; have := h.lt; omega
 have hBw := h.lt
 have hNB := h.nb
 obtain ⟨w1, hmk, ho1, hg1⟩ := run_make_n w P.n hn
 have f3 : w1.frozen? ⟨B, 3, none⟩ = false := (h.grow hg1).fz 3
 have c1 := h.c1
 have c31 := (h.grow hg1).c3
 have HP0 : Hid (Pt N (w1.setCell ⟨B, 3, none⟩ (.slice (some ⟨w.heap.size, 0, none⟩) P.n P.n)) B 61 P ia ma ic mc (.slice (some ⟨w.heap.size, 0, none⟩) P.n P.n)) := (h.grow hg1).set _
 have c12 := HP0.out.c1
 have HC0 : Hid (Ch w (w1.setCell ⟨B, 3, none⟩ (.slice (some ⟨w.heap.size, 0, none⟩) P.n P.n)) [B]) := (Ch.of hg1).trans (Ch.one (grown_set _ _ _ _) (by simp))
 have HO0 : Hid (OwnN (w1.setCell ⟨B, 3, none⟩ (.slice (some ⟨w.heap.size, 0, none⟩) P.n P.n)) w.heap.size (.slice (some ⟨w.heap.size, 0, none⟩) P.n P.n) P.n (fun _ => 0)) := ho1.kept (grown_set _ _ _ _) (.inr (by simp [Value.ownBlock]; omega))
 have HTb : Hid (TabAt w) := hTab
 have HNo : Hid (∀ i, i < P.n → Lk.instB 2 P.m p (P.I i) = false → Lk.instsB 2 p P = false) := fun i hi hf => Lk.instsB_no hi hf
 have HYes : Hid ((∀ i, i < P.n → Lk.instB 2 P.m p (P.I i) = true) → Lk.instsB 2 p P = true) := Lk.instsB_iff.2
 have HSz : Hid (∀ i, (P.sh 2).s i = ((Ru.encT 2 (Lk.bare (P.I i))).length : Int)) := fun i => rfl
 clear h hTab ho1 hg1
 obtain ⟨R, hR⟩ : ∃ R, R = Lk.instsB 2 p P := ⟨_, rfl⟩
 obtain ⟨Ss, hSs⟩ : ∃ Ss, Ss = (P.sh 2).s := ⟨_, rfl⟩
 rw [← hR] at HNo HYes ⊢
 rw [← hSs] at HSz ⊢
 clear hR hSs
 obtain ⟨n, hnn⟩ : ∃ n, n = P.n := ⟨_, rfl⟩
 rw [← hnn] at hn hmk c1 HP0 c12 HC0 HO0 HNo HYes ⊢
 have HNn : Hid (n = P.n) := hnn
 clear hnn
 obtain ⟨S0, hS0⟩ : ∃ S0, S0 = w.heap.size := ⟨_, rfl⟩
 rw [← hS0] at hmk HP0 c12 HC0 HO0 ⊢
 have hSw : S0 ≤ w.heap.size ∧ w.heap.size ≤ S0 := ⟨Nat.le_of_eq hS0, Nat.le_of_eq hS0.symm⟩
 have hNS : N ≤ S0 := by omega
 have hBS : B ≠ S0 := by omega
 clear hS0
 go_enter Tryz.func40, Tryz.ntmps40
 go_wp2_with fail
 go_loopw [23] (fun i wr => ∃ k : Nat, i = .int .i64 k ∧ k ≤ n ∧ Pt N wr B 61 P ia ma ic mc (.slice (some ⟨S0, 0, none⟩) n n) ∧ OwnN wr S0 (.slice (some ⟨S0, 0, none⟩) n n) n (fun i => if i < k then Ss i else 0) ∧ Ch w wr [B] ∧ (∀ i, i < k → Lk.instB 2 P.m p (P.I i) = true)) (fun i _ => n - (intOf i).toNat)
 case atStart => exact ⟨0, rfl, Nat.zero_le _, HP0.out, HO0.out.congr (fun i _ => by simp), HC0.out, fun i hi => by omega⟩
 case round =>
  obtain ⟨k, rfl, hk, hpt, hoS, hch, hall⟩ := hrel
  have HPt : Hid (Pt N wr B 61 P ia ma ic mc (.slice (some ⟨S0, 0, none⟩) n n)) := hpt
  have HOS : Hid (OwnN wr S0 (.slice (some ⟨S0, 0, none⟩) n n) n (fun i => if i < k then Ss i else 0)) := hoS
  have HCH : Hid (Ch w wr [B]) := hch
  have HAL : Hid (∀ i, i < k → Lk.instB 2 P.m p (P.I i) = true) := hall
  have hSr : S0 < wr.heap.size := hoS.lt S0 rfl
  have hBr : B < wr.heap.size := hpt.lt
  clear hoS hch hall
  by_cases hkn : k < n
  ·have hkn' : (k : Int) < n := by omega
   obtain ⟨b, off, rfl, hb, hin, hrng⟩ := hpt.ins.at (i := k) (by rw [← HNn.out]; exact hkn)
   obtain ⟨v, hv⟩ : ∃ v, v = P.I k := ⟨_, rfl⟩
   rw [← hv] at hin hrng
   have HTw : Hid (∀ W, wr.grownBy W none → TabAt W) := fun W g => (HTb.out.ch HCH.out (by simp; omega)).kept g (by simp)
   have HLb : Hid (∀ W, wr.grownBy W none → Calls Tryz.prog 62 #[.pointer (some ⟨B, 0, none⟩), .agg #[.int .i64 v.op, .int .i64 v.a, .int .i64 v.b, .int .i64 v.c, .int .i64 v.k, .int .i64 v.sub, .int .i64 v.scale, .int .i64 v.imm, .int .i64 v.label], .int .i64 p] W fun e w' => e = .returned (.bool (Lk.labB P.m p v)) ∧ W.grownBy w' none) := fun W g => plabel_any (HPt.out.grow g) v p
   have HI : Hid (Lk.instB 2 P.m p (P.I k) = (Lk.labB P.m p v && Ru.mayT 2 (Lk.bare v))) := by rw [hv]; rfl
   have HSk : Hid (Ss k = ((Ru.encT 2 (Lk.bare v)).length : Int)) := by rw [hv]; exact HSz.out k
   have hrb : InRng (Lk.bare v) := ⟨hrng.i1, hrng.i2, hrng.s1, hrng.s2⟩
   obtain ⟨d0, d1, d2, d3, d4, d5, d6, d7, d8⟩ := hin
   have IN := InstAt.new wr v
   have hA := World.grownBy_alloc wr (Obj.cells #[.int .i64 v.op, .int .i64 v.a, .int .i64 v.b, .int .i64 v.c, .int .i64 v.k, .int .i64 v.sub, .int .i64 v.scale, .int .i64 v.imm, .int .i64 v.label] 50) none
   clear hpt hrng hv
   cases hlb : Lk.labB P.m p v
   ·rw [hlb] at HLb HI
    go_wp2_with (go_at_call 62; refine (HLb.out _ hA).mono ?_; rintro e w4 ⟨rfl, hg4⟩)
    go_ret
    rw [HNo.out k hkn (by rw [HI.out]; rfl)]
    exact ⟨rfl, HCH.out.trans (Ch.of (gtr hA hg4)), fun h => by cases h⟩
   ·rw [hlb] at HLb HI
    simp only [Bool.true_and] at HI
    go_wp2_with (go_at_call 62; refine (HLb.out _ hA).mono ?_; rintro e w4 ⟨rfl, hg4⟩; have z8 := (IN.kept hg4 (by simp)).fz 8; have y8 := (IN.kept hg4 (by simp)).c8)
    have IN5 : InstAt (w4.setCell ⟨wr.heap.size, 8, none⟩ (.int .i64 0)) wr.heap.size (Lk.bare v) := (IN.kept hg4 (by simp)).set8 0
    have HG5 : Hid (wr.grownBy (w4.setCell ⟨wr.heap.size, 8, none⟩ (.int .i64 0)) none) := gs (gtr hA hg4) _ _ (Nat.le_refl _)
    clear hA hg4 d0 d1 d2 d3 d4 d5 d6 d7 d8 IN z8 y8
    obtain ⟨bx, hbx⟩ : ∃ bx, bx = wr.heap.size := ⟨_, rfl⟩
    rw [← hbx] at IN5 HG5 ⊢
    obtain ⟨W5, hW5⟩ : ∃ W5, W5 = w4.setCell ⟨bx, 8, none⟩ (.int .i64 0) := ⟨_, rfl⟩
    rw [← hW5] at IN5 HG5 ⊢
    clear hW5
    have HP5 : Hid (Pt N W5 B 61 P (some ⟨b, off, none⟩) ma ic mc (.slice (some ⟨S0, 0, none⟩) n n)) := HPt.out.grow HG5.out
    have p0 := HP5.out.c0
    obtain ⟨x0, x1, x2, x3, x4, x5, x6, x7, x8, xz⟩ := IN5
    simp only [Lk.bare] at x0 x1 x2 x3 x4 x5 x6 x7 x8
    clear xz
    cases hmt : Ru.mayT 2 (Lk.bare v)
    ·rw [hmt] at HI
     have HEn : Hid (∀ W, W5.grownBy W none → Calls Tryz.prog 61 #[.agg #[.int .i64 v.op, .int .i64 v.a, .int .i64 v.b, .int .i64 v.c, .int .i64 v.k, .int .i64 v.sub, .int .i64 v.scale, .int .i64 v.imm, .int .i64 0]] W fun e w' => e = .returned (.tuple #[.slice none 0 0, .int .i64 40]) ∧ W.grownBy w' none) := fun W g => enc_cn (Lk.bare v) W (HTw.out W (gtr HG5.out g)) hrb hmt
     go_cut [7, 8] (fun b e wx => b = .slice none 0 0 ∧ e = .int .i64 40 ∧ W5.grownBy wx none)
     case first =>
      refine region_late 9 8 _ _ _ (psiV [.pointer (some ⟨B, 0, none⟩), .pointer (some ⟨B, 0, none⟩), .pointer (some ⟨B, 0, none⟩), .func (.func 61) #[] #[], .agg #[.int .i64 v.op, .int .i64 v.a, .int .i64 v.b, .int .i64 v.c, .int .i64 v.k, .int .i64 v.sub, .int .i64 v.scale, .int .i64 v.imm, .int .i64 0], .tuple #[.slice none 0 0, .int .i64 40], .tuple #[.slice none 0 0, .int .i64 40], .slice none 0 0, .int .i64 40]) (by kernel_rfl) (by kernel_rfl) rfl rfl rfl (by kernel_rfl) (by kernel_rfl) (fun i x w0 w1 hi h g => h) ?_ ?_ ?_
      ·simp only [List.take_succ_cons, List.take_zero]
       refine ⟨?_, ?_, ?_, ?_, ?_, ?_, ?_, ?_, ?_, trivial⟩
       ·intro V W0 A g hV hs hz
        have gD : W5.grownBy W0 none := gtr (grown_drew (World.grownBy.refl _ none)) g
        have e00 := hz 0 (.pointer (some ⟨B, 0, none⟩)) (by kernel_rfl) rfl
        clear hV hs hz
        refine outO_val (v := .pointer (some ⟨B, 0, none⟩)) (w' := W0) ?_ gr0 rfl
        simp [go_sem, e00]
       ·intro V W0 A g hV hs hz
        have gD : W5.grownBy W0 none := gtr (grown_drew (World.grownBy.refl _ none)) g
        have q0 : V 0 = .pointer (some ⟨B, 0, none⟩) := hV 0 (by kernel_rfl)
        have e0 := hs 35 0 (by kernel_rfl) (by kernel_rfl)
        clear hV hs hz
        refine outO_val (v := .pointer (some ⟨B, 0, none⟩)) (w' := W0) ?_ gr0 rfl
        simp [go_sem, q0, e0]
       ·intro V W0 A g hV hs hz
        have gD : W5.grownBy W0 none := gtr (grown_drew (World.grownBy.refl _ none)) g
        have q1 : V 1 = .pointer (some ⟨B, 0, none⟩) := hV 1 (by kernel_rfl)
        have e1 := hs 36 1 (by kernel_rfl) (by kernel_rfl)
        clear hV hs hz
        refine outO_val (v := .pointer (some ⟨B, 0, none⟩)) (w' := W0) ?_ gr0 rfl
        simp [go_sem, q1, e1]
       ·intro V W0 A g hV hs hz
        have gD : W5.grownBy W0 none := gtr (grown_drew (World.grownBy.refl _ none)) g
        have q2 : V 2 = .pointer (some ⟨B, 0, none⟩) := hV 2 (by kernel_rfl)
        have e2 := hs 37 2 (by kernel_rfl) (by kernel_rfl)
        have x0 := gD.cell p0 (by simp)
        clear hV hs hz
        refine outO_val (v := .func (.func 61) #[] #[]) (w' := W0) ?_ gr0 rfl
        simp [go_sem, q2, e2, x0]
       ·intro V W0 A g hV hs hz
        have gD : W5.grownBy W0 none := gtr (grown_drew (World.grownBy.refl _ none)) g
        have e06 := hz 6 (.pointer (some ⟨bx, 0, none⟩)) (by kernel_rfl) rfl
        have x0 := gD.cell x0 (by simp)
        have x1 := gD.cell x1 (by simp)
        have x2 := gD.cell x2 (by simp)
        have x3 := gD.cell x3 (by simp)
        have x4 := gD.cell x4 (by simp)
        have x5 := gD.cell x5 (by simp)
        have x6 := gD.cell x6 (by simp)
        have x7 := gD.cell x7 (by simp)
        have x8 := gD.cell x8 (by simp)
        clear hV hs hz
        refine outO_val (v := .agg #[.int .i64 v.op, .int .i64 v.a, .int .i64 v.b, .int .i64 v.c, .int .i64 v.k, .int .i64 v.sub, .int .i64 v.scale, .int .i64 v.imm, .int .i64 0]) (w' := W0) ?_ gr0 rfl
        simp [go_sem, e06, x0, x1, x2, x3, x4, x5, x6, x7, x8]
       ·intro V W0 A g hV hs hz
        have gD : W5.grownBy W0 none := gtr (grown_drew (World.grownBy.refl _ none)) g
        have q3 : V 3 = .func (.func 61) #[] #[] := hV 3 (by kernel_rfl)
        have e3 := hs 38 3 (by kernel_rfl) (by kernel_rfl)
        have q4 : V 4 = .agg #[.int .i64 v.op, .int .i64 v.a, .int .i64 v.b, .int .i64 v.c, .int .i64 v.k, .int .i64 v.sub, .int .i64 v.scale, .int .i64 v.imm, .int .i64 0] := hV 4 (by kernel_rfl)
        have e4 := hs 39 4 (by kernel_rfl) (by kernel_rfl)
        clear hV hs hz
        refine outO_call (f := 61) ?_ ((HEn.out W0 gD).mono fun e w2 ⟨he, hg⟩ => ⟨_, he, hg, rfl⟩)
        simp [go_sem, q3, e3, q4, e4]
       ·intro V W0 A g hV hs hz
        have gD : W5.grownBy W0 none := gtr (grown_drew (World.grownBy.refl _ none)) g
        have q5 : V 5 = .tuple #[.slice none 0 0, .int .i64 40] := hV 5 (by kernel_rfl)
        have e5 := hs 40 5 (by kernel_rfl) (by kernel_rfl)
        clear hV hs hz
        refine outO_val (v := .tuple #[.slice none 0 0, .int .i64 40]) (w' := W0) ?_ gr0 rfl
        simp [go_sem, q5, e5]
       ·intro V W0 A g hV hs hz
        have gD : W5.grownBy W0 none := gtr (grown_drew (World.grownBy.refl _ none)) g
        have q6 : V 6 = .tuple #[.slice none 0 0, .int .i64 40] := hV 6 (by kernel_rfl)
        have e6 := hs 34 6 (by kernel_rfl) (by kernel_rfl)
        clear hV hs hz
        refine outO_val (v := .slice none 0 0) (w' := W0) ?_ gr0 rfl
        simp [go_sem, q6, e6]
       ·intro V W0 A g hV hs hz
        have gD : W5.grownBy W0 none := gtr (grown_drew (World.grownBy.refl _ none)) g
        have q6 : V 6 = .tuple #[.slice none 0 0, .int .i64 40] := hV 6 (by kernel_rfl)
        have e6 := hs 34 6 (by kernel_rfl) (by kernel_rfl)
        clear hV hs hz
        refine outO_val (v := .int .i64 40) (w' := W0) ?_ gr0 rfl
        simp [go_sem, q6, e6]
      ·intro V W0 g hV
       have gD : W5.grownBy W0 none := gtr (grown_drew (World.grownBy.refl _ none)) g
       have h0 : V 0 = .pointer (some ⟨B, 0, none⟩) := hV 0 (by decide)
       have h1 : V 1 = .pointer (some ⟨B, 0, none⟩) := hV 1 (by decide)
       have h2 : V 2 = .pointer (some ⟨B, 0, none⟩) := hV 2 (by decide)
       have h3 : V 3 = .func (.func 61) #[] #[] := hV 3 (by decide)
       have h4 : V 4 = .agg #[.int .i64 v.op, .int .i64 v.a, .int .i64 v.b, .int .i64 v.c, .int .i64 v.k, .int .i64 v.sub, .int .i64 v.scale, .int .i64 v.imm, .int .i64 0] := hV 4 (by decide)
       have h5 : V 5 = .tuple #[.slice none 0 0, .int .i64 40] := hV 5 (by decide)
       have h6 : V 6 = .tuple #[.slice none 0 0, .int .i64 40] := hV 6 (by decide)
       have h7 : V 7 = .slice none 0 0 := hV 7 (by decide)
       have h8 : V 8 = .int .i64 40 := hV 8 (by decide)
       simp [frV, dstOf, Act.put, h0, h1, h2, h3, h4, h5, h6, h7, h8]
       clear h0 h1 h2 h3 h4 h5 h6 h7 h8 hV g
       have GR : Hid (W5.grownBy W0 none) := gD
       clear gD
       go_wp2_with fail
       go_meet
       exact ⟨rfl, rfl, GR.out⟩
      ·intro V W0 g hV hold
       have gD : W5.grownBy W0 none := gtr (grown_drew (World.grownBy.refl _ none)) g
       have h0 : V 0 = .pointer (some ⟨B, 0, none⟩) := hV 0 (by decide) (by decide)
       have h1 : V 1 = .pointer (some ⟨B, 0, none⟩) := hV 1 (by decide) (by decide)
       have h2 : V 2 = .pointer (some ⟨B, 0, none⟩) := hV 2 (by decide) (by decide)
       have h3 : V 3 = .func (.func 61) #[] #[] := hV 3 (by decide) (by decide)
       have h4 : V 4 = .agg #[.int .i64 v.op, .int .i64 v.a, .int .i64 v.b, .int .i64 v.c, .int .i64 v.k, .int .i64 v.sub, .int .i64 v.scale, .int .i64 v.imm, .int .i64 0] := hV 4 (by decide) (by decide)
       have h5 : V 5 = .tuple #[.slice none 0 0, .int .i64 40] := hV 5 (by decide) (by decide)
       have h6 : V 6 = .tuple #[.slice none 0 0, .int .i64 40] := hV 6 (by decide) (by decide)
       have h7 : V 7 = .slice none 0 0 := hV 7 (by decide) (by decide)
       obtain ⟨y, h8⟩ : ∃ y, V 8 = y := ⟨_, rfl⟩
       simp [frV, dstOf, Act.put, h0, h1, h2, h3, h4, h5, h6, h7, h8]
       clear h0 h1 h2 h3 h4 h5 h6 h7 h8 hV g hold
       have GR : Hid (W5.grownBy W0 none) := gD
       clear gD
       go_wp2_with fail
       go_meet
       exact ⟨rfl, rfl, GR.out⟩
     case rest =>
      obtain ⟨rfl, rfl, g⟩ := hcut
      clear x0 x1 x2 x3 x4 x5 x6 x7 x8 p0 HEn
      go_wp2
      go_ret
      rw [HNo.out k hkn HI.out]
      exact ⟨rfl, HCH.out.trans (Ch.of (gtr HG5.out g)), fun h => by cases h⟩
    ·rw [hmt] at HI
     obtain ⟨SS, hSS⟩ : ∃ SS, SS = Ru.encT 2 (Lk.bare v) := ⟨_, rfl⟩
     rw [← hSS] at HSk
     have HEn : Hid (∀ W, W5.grownBy W none → Calls Tryz.prog 61 #[.agg #[.int .i64 v.op, .int .i64 v.a, .int .i64 v.b, .int .i64 v.c, .int .i64 v.k, .int .i64 v.sub, .int .i64 v.scale, .int .i64 v.imm, .int .i64 0]] W fun e w' => ∃ T' c', e = .returned (.tuple #[.slice (some ⟨T', 0, none⟩) SS.length c', .int .i64 0]) ∧ OwnL w' W.heap.size (.slice (some ⟨T', 0, none⟩) SS.length c') SS ∧ W.grownBy w' none) := fun W g => by rw [hSS]; exact enc_c (Lk.bare v) W (HTw.out W (gtr HG5.out g)) hrb hmt
     have hSl : SS.length ≤ 33 := by rw [hSS]; exact (Ru.encT_len 2 (Lk.bare v)).2
     clear hSS
     go_cut [7, 8] (fun b e wx => ∃ T' c', b = .slice (some ⟨T', 0, none⟩) SS.length c' ∧ e = .int .i64 0 ∧ W5.grownBy wx none)
     case first =>
      refine region_late 9 8 _ _ _ (psiE [.pointer (some ⟨B, 0, none⟩), .pointer (some ⟨B, 0, none⟩), .pointer (some ⟨B, 0, none⟩), .func (.func 61) #[] #[], .agg #[.int .i64 v.op, .int .i64 v.a, .int .i64 v.b, .int .i64 v.c, .int .i64 v.k, .int .i64 v.sub, .int .i64 v.scale, .int .i64 v.imm, .int .i64 0]] W5.heap.size SS) (by kernel_rfl) (by kernel_rfl) rfl rfl rfl (by kernel_rfl) (by kernel_rfl) (fun i x w0 w1 hi h g => psiE_stable h g) ?_ ?_ ?_
      ·simp only [List.take_succ_cons, List.take_zero]
       refine ⟨?_, ?_, ?_, ?_, ?_, ?_, ?_, ?_, ?_, trivial⟩
       ·intro V W0 A g hV hs hz
        have gD : W5.grownBy W0 none := gtr (grown_drew (World.grownBy.refl _ none)) g
        have e00 := hz 0 (.pointer (some ⟨B, 0, none⟩)) (by kernel_rfl) rfl
        clear hV hs hz
        refine outO_val (v := .pointer (some ⟨B, 0, none⟩)) (w' := W0) ?_ gr0 (psiE_mk (by simp) rfl)
        simp [go_sem, e00]
       ·intro V W0 A g hV hs hz
        have gD : W5.grownBy W0 none := gtr (grown_drew (World.grownBy.refl _ none)) g
        have q0 : V 0 = .pointer (some ⟨B, 0, none⟩) := psiE_f (hV 0 (by kernel_rfl)) (by simp)
        have e0 := hs 35 0 (by kernel_rfl) (by kernel_rfl)
        clear hV hs hz
        refine outO_val (v := .pointer (some ⟨B, 0, none⟩)) (w' := W0) ?_ gr0 (psiE_mk (by simp) rfl)
        simp [go_sem, q0, e0]
       ·intro V W0 A g hV hs hz
        have gD : W5.grownBy W0 none := gtr (grown_drew (World.grownBy.refl _ none)) g
        have q1 : V 1 = .pointer (some ⟨B, 0, none⟩) := psiE_f (hV 1 (by kernel_rfl)) (by simp)
        have e1 := hs 36 1 (by kernel_rfl) (by kernel_rfl)
        clear hV hs hz
        refine outO_val (v := .pointer (some ⟨B, 0, none⟩)) (w' := W0) ?_ gr0 (psiE_mk (by simp) rfl)
        simp [go_sem, q1, e1]
       ·intro V W0 A g hV hs hz
        have gD : W5.grownBy W0 none := gtr (grown_drew (World.grownBy.refl _ none)) g
        have q2 : V 2 = .pointer (some ⟨B, 0, none⟩) := psiE_f (hV 2 (by kernel_rfl)) (by simp)
        have e2 := hs 37 2 (by kernel_rfl) (by kernel_rfl)
        have x0 := gD.cell p0 (by simp)
        clear hV hs hz
        refine outO_val (v := .func (.func 61) #[] #[]) (w' := W0) ?_ gr0 (psiE_mk (by simp) rfl)
        simp [go_sem, q2, e2, x0]
       ·intro V W0 A g hV hs hz
        have gD : W5.grownBy W0 none := gtr (grown_drew (World.grownBy.refl _ none)) g
        have e06 := hz 6 (.pointer (some ⟨bx, 0, none⟩)) (by kernel_rfl) rfl
        have x0 := gD.cell x0 (by simp)
        have x1 := gD.cell x1 (by simp)
        have x2 := gD.cell x2 (by simp)
        have x3 := gD.cell x3 (by simp)
        have x4 := gD.cell x4 (by simp)
        have x5 := gD.cell x5 (by simp)
        have x6 := gD.cell x6 (by simp)
        have x7 := gD.cell x7 (by simp)
        have x8 := gD.cell x8 (by simp)
        clear hV hs hz
        refine outO_val (v := .agg #[.int .i64 v.op, .int .i64 v.a, .int .i64 v.b, .int .i64 v.c, .int .i64 v.k, .int .i64 v.sub, .int .i64 v.scale, .int .i64 v.imm, .int .i64 0]) (w' := W0) ?_ gr0 (psiE_mk (by simp) rfl)
        simp [go_sem, e06, x0, x1, x2, x3, x4, x5, x6, x7, x8]
       ·intro V W0 A g hV hs hz
        have gD : W5.grownBy W0 none := gtr (grown_drew (World.grownBy.refl _ none)) g
        have q3 : V 3 = .func (.func 61) #[] #[] := psiE_f (hV 3 (by kernel_rfl)) (by simp)
        have e3 := hs 38 3 (by kernel_rfl) (by kernel_rfl)
        have q4 : V 4 = .agg #[.int .i64 v.op, .int .i64 v.a, .int .i64 v.b, .int .i64 v.c, .int .i64 v.k, .int .i64 v.sub, .int .i64 v.scale, .int .i64 v.imm, .int .i64 0] := psiE_f (hV 4 (by kernel_rfl)) (by simp)
        have e4 := hs 39 4 (by kernel_rfl) (by kernel_rfl)
        clear hV hs hz
        refine outO_call (f := 61) ?_ (psi_call (by have := g.size; exact this) (by simp) (by simp) (HEn.out W0 gD))
        simp [go_sem, q3, e3, q4, e4]
       ·intro V W0 A g hV hs hz
        obtain ⟨T1, k1, h1, o1⟩ := psiE_t (hV 5 (by kernel_rfl)) (by simp) (by simp)
        have e1 := hs 40 5 (by kernel_rfl) (by kernel_rfl)
        clear hV hs hz
        refine outO_val (v := V 5) (w' := W0) ?_ gr0 (psiE_mt (by simp) (by simp) ⟨T1, k1, h1, o1⟩)
        simp [go_sem, e1]
       ·intro V W0 A g hV hs hz
        obtain ⟨T1, k1, h1, o1⟩ := psiE_t (hV 6 (by kernel_rfl)) (by simp) (by simp)
        have e1 := hs 34 6 (by kernel_rfl) (by kernel_rfl)
        clear hV hs hz
        refine outO_val (v := .slice (some ⟨T1, 0, none⟩) SS.length k1) (w' := W0) ?_ gr0 (psiE_ms (by simp) ⟨T1, k1, rfl, o1⟩)
        simp [go_sem, e1, h1]
       ·intro V W0 A g hV hs hz
        obtain ⟨T1, k1, h1, o1⟩ := psiE_t (hV 6 (by kernel_rfl)) (by simp) (by simp)
        have e1 := hs 34 6 (by kernel_rfl) (by kernel_rfl)
        clear hV hs hz
        refine outO_val (v := .int .i64 0) (w' := W0) ?_ gr0 (psiE_me (by simp) rfl)
        simp [go_sem, e1, h1]
      ·intro V W0 g hV
       have gD : W5.grownBy W0 none := gtr (grown_drew (World.grownBy.refl _ none)) g
       have h0 : V 0 = .pointer (some ⟨B, 0, none⟩) := psiE_f (hV 0 (by decide)) (by simp)
       have h1 : V 1 = .pointer (some ⟨B, 0, none⟩) := psiE_f (hV 1 (by decide)) (by simp)
       have h2 : V 2 = .pointer (some ⟨B, 0, none⟩) := psiE_f (hV 2 (by decide)) (by simp)
       have h3 : V 3 = .func (.func 61) #[] #[] := psiE_f (hV 3 (by decide)) (by simp)
       have h4 : V 4 = .agg #[.int .i64 v.op, .int .i64 v.a, .int .i64 v.b, .int .i64 v.c, .int .i64 v.k, .int .i64 v.sub, .int .i64 v.scale, .int .i64 v.imm, .int .i64 0] := psiE_f (hV 4 (by decide)) (by simp)
       obtain ⟨T1, k1, h5, _⟩ := psiE_t (hV 5 (by decide)) (by simp) (by simp)
       obtain ⟨T2, k2, h6, _⟩ := psiE_t (hV 6 (by decide)) (by simp) (by simp)
       obtain ⟨T3, k3, h7, o3⟩ := psiE_s (hV 7 (by decide)) (by simp)
       have h8 := psiE_e (hV 8 (by decide)) (by simp)
       simp [frV, dstOf, Act.put, h0, h1, h2, h3, h4, h5, h6, h7, h8]
       clear h0 h1 h2 h3 h4 h5 h6 h7 h8 hV g
       have GR : Hid (W5.grownBy W0 none) := gD
       have O3 : Hid (OwnL W0 W5.heap.size (.slice (some ⟨T3, 0, none⟩) SS.length k3) SS) := o3
       clear gD o3
       go_wp2_with fail
       go_meet
       exact ⟨T3, k3, rfl, rfl, GR.out⟩
      ·intro V W0 g hV hold
       have gD : W5.grownBy W0 none := gtr (grown_drew (World.grownBy.refl _ none)) g
       have h0 : V 0 = .pointer (some ⟨B, 0, none⟩) := psiE_f (hV 0 (by decide) (by decide)) (by simp)
       have h1 : V 1 = .pointer (some ⟨B, 0, none⟩) := psiE_f (hV 1 (by decide) (by decide)) (by simp)
       have h2 : V 2 = .pointer (some ⟨B, 0, none⟩) := psiE_f (hV 2 (by decide) (by decide)) (by simp)
       have h3 : V 3 = .func (.func 61) #[] #[] := psiE_f (hV 3 (by decide) (by decide)) (by simp)
       have h4 : V 4 = .agg #[.int .i64 v.op, .int .i64 v.a, .int .i64 v.b, .int .i64 v.c, .int .i64 v.k, .int .i64 v.sub, .int .i64 v.scale, .int .i64 v.imm, .int .i64 0] := psiE_f (hV 4 (by decide) (by decide)) (by simp)
       obtain ⟨T1, k1, h5, _⟩ := psiE_t (hV 5 (by decide) (by decide)) (by simp) (by simp)
       obtain ⟨T2, k2, h6, _⟩ := psiE_t (hV 6 (by decide) (by decide)) (by simp) (by simp)
       obtain ⟨T3, k3, h7, o3⟩ := psiE_s (hV 7 (by decide) (by decide)) (by simp)
       obtain ⟨y, h8⟩ : ∃ y, V 8 = y := ⟨_, rfl⟩
       simp [frV, dstOf, Act.put, h0, h1, h2, h3, h4, h5, h6, h7, h8]
       clear h0 h1 h2 h3 h4 h5 h6 h7 h8 hV g hold
       have GR : Hid (W5.grownBy W0 none) := gD
       have O3 : Hid (OwnL W0 W5.heap.size (.slice (some ⟨T3, 0, none⟩) SS.length k3) SS) := o3
       clear gD o3
       go_wp2_with fail
       go_meet
       exact ⟨T3, k3, rfl, rfl, GR.out⟩
     case rest =>
      obtain ⟨T', c', rfl, rfl, g1⟩ := hcut
      obtain ⟨W6, hwc⟩ : ∃ x, x = wc := ⟨_, rfl⟩
      rw [← hwc] at g1 ⊢
      clear hwc x0 x1 x2 x3 x4 x5 x6 x7 x8 p0 HEn
      have HP6 : Hid (Pt N W6 B 61 P (some ⟨b, off, none⟩) ma ic mc (.slice (some ⟨S0, 0, none⟩) n n)) := HP5.out.grow g1
      have HO6 : Hid (OwnN W6 S0 (.slice (some ⟨S0, 0, none⟩) n n) n (fun i => if i < k then Ss i else 0)) := HOS.out.grow (gtr HG5.out g1)
      have HC6 : Hid (Ch w W6 [B]) := HCH.out.trans (Ch.of (gtr HG5.out g1))
      have c36 := HP6.out.c3
      have f6 := HO6.out.frozen k
      have k6 := HO6.out.cell hkn
      have HO7 : Hid (OwnN (W6.setCell ⟨S0, k, none⟩ (.int .i64 (SS.length : Int))) S0 (.slice (some ⟨S0, 0, none⟩) n n) n (fun i => if i < k + 1 then Ss i else 0)) := (HO6.out.set hkn _).congr (fun i hi => by
       unfold setF
       by_cases e : i = k
       ·subst e; simp [HSk.out]
       ·by_cases h2 : i < k
        ·simp [e, h2, show i < k + 1 by omega]
        ·simp [e, h2, show ¬ i < k + 1 by omega])
      have HC7 : Hid (Ch w (W6.setCell ⟨S0, k, none⟩ (.int .i64 (SS.length : Int))) [B]) := HC6.out.new (b := S0) (by omega) (grown_set _ _ _ _)
      have HP7 : Hid (Pt N (W6.setCell ⟨S0, k, none⟩ (.int .i64 (SS.length : Int))) B 61 P (some ⟨b, off, none⟩) ma ic mc (.slice (some ⟨S0, 0, none⟩) n n)) := HP6.out.ch (l := [S0]) (Ch.one (grown_set _ _ _ _) (by simp)) (by simp; omega) (by simp; omega)
      clear g1
      go_wp2
      go_roundw
      case rel => exact ⟨k + 1, by go_num, by omega, HP7.out, HO7.out, HC7.out, fun i hi => by
       by_cases e : i = k
       ·subst e; exact HI.out
       ·exact HAL.out i (by omega)⟩
      case measure => simp [intOf]; omega
  ·obtain rfl : k = n := by omega
   go_wp2
   go_ret
   have hR := HYes.out HAL.out
   rw [hR]
   exact ⟨rfl, HCH.out, fun _ => ⟨HPt.out, (HOS.out.congr (fun i hi => by simp [hi])).low hNS⟩⟩
end Go.Proofs.YtkiockffejlnhaaGreatDoor
