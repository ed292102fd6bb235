/- Contracts and plain facts that the walks share. -/
import Derived.Test.YtkiockffejlnhaaGreatDoorG11
namespace Go.Proofs.YtkiockffejlnhaaGreatDoor
set_option maxRecDepth 100000
set_option maxHeartbeats 32000000
open Go.RowKit
set_option linter.unusedVariables false
theorem InAt.ch {w w' : World} {l : List Nat} {b o : Nat} {v : InV} (h : InAt w b o v) (hg : Ch w w' l) (hb : b ∉ l) : InAt w' b o v :=
 ⟨hg.cell h.c0 hb, hg.cell h.c1 hb, hg.cell h.c2 hb, hg.cell h.c3 hb, hg.cell h.c4 hb, hg.cell h.c5 hb, hg.cell h.c6 hb, hg.cell h.c7 hb, hg.cell h.c8 hb⟩
structure InsIn (N : Nat) (w : World) (a : Option Addr) (n c : Nat) (I : Nat → InV) : Prop where
 le : n ≤ c
 max : c ≤ maxLen
 lie : n = 0 ∨ ∃ b off, a = some ⟨b, off, none⟩ ∧ b < N ∧ ∀ i, i < n → InAt w b (off + i * 9) (I i)
 rng : ∀ i, i < n → InRng (I i)
theorem InsIn.ch {N : Nat} {w w' : World} {a : Option Addr} {n c : Nat} {I : Nat → InV} {l : List Nat} (h : InsIn N w a n c I) (hg : Ch w w' l) (hl : ∀ k, k ∈ l → N ≤ k) : InsIn N w' a n c I :=
 ⟨h.le, h.max, by
  rcases h.lie with h0 | ⟨b, off, e, hb, hi⟩
  ·exact .inl h0
  ·exact .inr ⟨b, off, e, hb, fun i hi' => (hi i hi').ch hg (fun hm => by have := hl b hm; omega)⟩, h.rng⟩
structure Pt (N : Nat) (w : World) (B fe : Nat) (P : Lk.PcV) (ia ma : Option Addr) (ic mc : Nat) (sv : Value) : Prop where
 blk : w.heap[B]? = some (.cells #[.func (.func fe) #[] #[], .slice ia P.n ic, .slice ma P.m mc, sv] 83 (0, 0))
 ins : InsIn N w ia P.n ic P.I
 mks : NumIn N w ma P.m mc P.M
 nb : N ≤ B
theorem Pt.lt {N : Nat} {w : World} {B fe : Nat} {P : Lk.PcV} {ia ma : Option Addr} {ic mc : Nat} {sv : Value} (h : Pt N w B fe P ia ma ic mc sv) : B < w.heap.size := by
 have := h.blk
 exact (Array.getElem?_eq_some_iff.1 this).1
theorem Pt.c0 {N : Nat} {w : World} {B fe : Nat} {P : Lk.PcV} {ia ma : Option Addr} {ic mc : Nat} {sv : Value} (h : Pt N w B fe P ia ma ic mc sv) : w.cell? ⟨B, 0, none⟩ = some (.func (.func fe) #[] #[]) := by simp [World.cell?, h.blk]
theorem Pt.c1 {N : Nat} {w : World} {B fe : Nat} {P : Lk.PcV} {ia ma : Option Addr} {ic mc : Nat} {sv : Value} (h : Pt N w B fe P ia ma ic mc sv) : w.cell? ⟨B, 1, none⟩ = some (.slice ia P.n ic) := by simp [World.cell?, h.blk]
theorem Pt.c2 {N : Nat} {w : World} {B fe : Nat} {P : Lk.PcV} {ia ma : Option Addr} {ic mc : Nat} {sv : Value} (h : Pt N w B fe P ia ma ic mc sv) : w.cell? ⟨B, 2, none⟩ = some (.slice ma P.m mc) := by simp [World.cell?, h.blk]
theorem Pt.c3 {N : Nat} {w : World} {B fe : Nat} {P : Lk.PcV} {ia ma : Option Addr} {ic mc : Nat} {sv : Value} (h : Pt N w B fe P ia ma ic mc sv) : w.cell? ⟨B, 3, none⟩ = some sv := by simp [World.cell?, h.blk]
theorem Pt.fz {N : Nat} {w : World} {B fe : Nat} {P : Lk.PcV} {ia ma : Option Addr} {ic mc : Nat} {sv : Value} (h : Pt N w B fe P ia ma ic mc sv) (k : Nat) : w.frozen? ⟨B, k, none⟩ = false := by simp [World.frozen?, h.blk]
theorem Pt.ch {N : Nat} {w w' : World} {B fe : Nat} {P : Lk.PcV} {ia ma : Option Addr} {ic mc : Nat} {sv : Value} {l : List Nat} (h : Pt N w B fe P ia ma ic mc sv) (hg : Ch w w' l) (hl : ∀ k, k ∈ l → N ≤ k) (hb : B ∉ l) : Pt N w' B fe P ia ma ic mc sv :=
 ⟨(hg.block B h.lt hb).trans h.blk, h.ins.ch hg hl, h.mks.ch hg hl, h.nb⟩
theorem Pt.grow {N : Nat} {w w' : World} {B fe : Nat} {P : Lk.PcV} {ia ma : Option Addr} {ic mc : Nat} {sv : Value} (h : Pt N w B fe P ia ma ic mc sv) (hg : w.grownBy w' none) : Pt N w' B fe P ia ma ic mc sv :=
 h.ch (l := []) (Ch.of hg) (by simp) (by simp)
theorem isjump_any (v : InV) (w : World) : Calls Tryz.prog 46 #[.agg #[.int .i64 v.op, .int .i64 v.a, .int .i64 v.b, .int .i64 v.c, .int .i64 v.k, .int .i64 v.sub, .int .i64 v.scale, .int .i64 v.imm, .int .i64 v.label]] w fun e w' => e = .returned (.bool (Lk.jmpB v.op)) ∧ w.grownBy w' none := by
 have hc : v.op = 19 ∨ v.op = 20 ∨ v.op = 21 ∨ v.op = 22 ∨ (Lk.jmpB v.op = false ∧ (v.op == 19) = false ∧ (v.op == 20) = false ∧ (v.op == 21) = false ∧ (v.op == 22) = false) := by
  unfold Lk.jmpB
  cases h1 : v.op == 19 <;> cases h2 : v.op == 20 <;> cases h3 : v.op == 21 <;> cases h4 : v.op == 22 <;> simp_all
 obtain ⟨op, a, b, c, k, sub, sc, imm, lb⟩ := v
 simp only at hc ⊢
 rcases hc with rfl | rfl | rfl | rfl | ⟨e, h1, h2, h3, h4⟩
 case inr.inr.inr.inr =>
  rw [e]
  clear e
  go_enter Tryz.func46, Tryz.ntmps46
  go_wp2
  go_ret
  exact ⟨rfl, gal⟩
 all_goals (
  go_enter Tryz.func46, Tryz.ntmps46
  go_wp2
  go_ret
  exact ⟨rfl, gal⟩)
theorem iscall_any (v : InV) (w : World) : Calls Tryz.prog 48 #[.agg #[.int .i64 v.op, .int .i64 v.a, .int .i64 v.b, .int .i64 v.c, .int .i64 v.k, .int .i64 v.sub, .int .i64 v.scale, .int .i64 v.imm, .int .i64 v.label]] w fun e w' => e = .returned (.bool (v.op == 23)) ∧ w.grownBy w' none := by
 go_enter Tryz.func48, Tryz.ntmps48
 go_wp2
 go_ret
 exact ⟨rfl, gal⟩
theorem fitb_any (x : Int) (w : World) : Calls Tryz.prog 66 #[.int .i64 x] w fun e w' => e = .returned (.bool (Lk.fitB x)) ∧ w' = w := by
 have HF : Hid (Lk.fitB x = (x == (x + 128) % 256 - 128)) := by
  show _ = _
  rw [Bool.eq_iff_iff, Lk.fitB_iff]
  simp
  omega
 go_enter Tryz.func66, Tryz.ntmps66
 go_wp2
 go_ret
 refine ⟨?_, rfl⟩
 show Ending.returned (Value.bool (x == wrap64 (IntKind.i8.wrap x))) = _
 rw [HF.out, show wrap64 (IntKind.i8.wrap x) = (x + 128) % 256 - 128 from by rw [wrap_i8]; unfold wrap64; omega]
theorem leading_any (v : InV) (x : Int) (w : World) : Calls Tryz.prog 47 #[.agg #[.int .i64 v.op, .int .i64 v.a, .int .i64 v.b, .int .i64 v.c, .int .i64 v.k, .int .i64 v.sub, .int .i64 v.scale, .int .i64 v.imm, .int .i64 v.label], .int .i64 x] w fun e w' => e = .returned (.agg #[.int .i64 v.op, .int .i64 v.a, .int .i64 v.b, .int .i64 v.c, .int .i64 v.k, .int .i64 v.sub, .int .i64 v.scale, .int .i64 x, .int .i64 0]) ∧ w.grownBy w' none := by
 go_enter Tryz.func47, Tryz.ntmps47
 go_wp2
 refine bodyPost_ret (by simp [results, Tryz.results47, go_sem]; try rfl) rfl ?_
 refine ⟨rfl, ?_⟩
 repeat (refine gs ?_ _ _ (by simp))
 exact ga gal _
theorem InsIn.at {N : Nat} {w : World} {a : Option Addr} {n c : Nat} {I : Nat → InV} (h : InsIn N w a n c I) {i : Nat} (hi : i < n) : ∃ b off, a = some ⟨b, off, none⟩ ∧ b < N ∧ InAt w b (off + i * 9) (I i) ∧ InRng (I i) := by
 rcases h.lie with h0 | ⟨b, off, e, hb, hh⟩
 ·omega
 ·exact ⟨b, off, e, hb, hh i hi, h.rng i hi⟩
theorem psize_any {N : Nat} {w : World} {B fe : Nat} {P : Lk.PcV} {ia ma : Option Addr} {ic mc : Nat} {sv : Value} {base : Nat} {S : Nat → Int} (h : Pt N w B fe P ia ma ic mc sv) (ho : OwnN w base sv P.n S) {k : Nat} (hk : k < P.n) :
  Calls Tryz.prog 93 #[.pointer (some ⟨B, 0, none⟩), .int .i64 k] w fun e w' => e = .returned (.int .i64 (S k)) ∧ w' = w := by
 have hk' : (k : Int) < P.n := by omega
 obtain ⟨a, c, rfl, hc, hcm, ha⟩ := ho.slice
 obtain ⟨T, rfl, hT, _⟩ := ha (by omega)
 have c3 := h.c3
 have cc := ho.cell hk
 generalize P.n = n at *
 clear h ho
 go_enter Tryz.func93, Tryz.ntmps93
 go_wp2
 go_ret
 exact ⟨rfl, rfl⟩
theorem ptarget_any {N : Nat} {w : World} {B fe : Nat} {P : Lk.PcV} {ia ma : Option Addr} {ic mc : Nat} {sv : Value} (h : Pt N w B fe P ia ma ic mc sv) {k : Nat} (hk : k < P.n) (h1 : 0 ≤ (P.I k).label) (h2 : (P.I k).label < P.m) :
  Calls Tryz.prog 65 #[.pointer (some ⟨B, 0, none⟩), .int .i64 k] w fun e w' => e = .returned (.int .i64 (P.M (P.I k).label.toNat)) ∧ ∃ d, w' = w.drewN d := by
 have hk' : (k : Int) < P.n := by omega
 obtain ⟨b, off, rfl, hb, hin, hr⟩ := h.ins.at hk
 obtain ⟨b2, off2, rfl, hb2, hm⟩ := h.mks.at (i := (P.I k).label.toNat) (by omega)
 have c1 := h.c1
 have c2 := h.c2
 have c8 := hin.c8
 obtain ⟨L, hL⟩ : ∃ L : Nat, (P.I k).label = L := ⟨(P.I k).label.toNat, by omega⟩
 rw [hL] at c8 h1 h2 hm ⊢
 simp only [Int.toNat_natCast] at hm ⊢
 have h2' : L < P.m := by omega
 generalize P.n = n at *
 generalize P.m = m at *
 generalize P.M L = x at *
 clear h hin hr hL
 go_enter Tryz.func65, Tryz.ntmps65
 go_wp2_with fail
 go_quiet (fail)
 go_wp2
 go_ret
 exact ⟨rfl, _, rfl⟩
theorem places_p (x : Value) (n : Nat) (S : Nat → Int) (w : World) (hn : (n : Int) ≤ 8796093022208) (hS : ∀ k, k ≤ n → 0 ≤ Lk.pos S k ∧ Lk.pos S k ≤ 4611686018427387904)
  (hC : ∀ k, k < n → ∀ W, w.grownBy W none → Calls Tryz.prog 93 #[x, .int .i64 k] W fun e w' => e = .returned (.int .i64 (S k)) ∧ W.grownBy w' none) :
  Calls Tryz.prog 44 #[.int .i64 n, .func (.func 93) #[x] #[]] w fun e w' => e = .returned (.tuple #[.slice (some ⟨w.heap.size, 0, none⟩) n n, .int .i64 (Lk.pos S n)]) ∧
   OwnN w' w.heap.size (.slice (some ⟨w.heap.size, 0, none⟩) n n) n (Lk.pos S) ∧ w.grownBy w' none := by
 have HS : Hid (∀ k, k ≤ n → 0 ≤ Lk.pos S k ∧ Lk.pos S k ≤ 4611686018427387904) := hS
 have HC : Hid (∀ k, k < n → ∀ W, w.grownBy W none → Calls Tryz.prog 93 #[x, .int .i64 k] W fun e w' => e = .returned (.int .i64 (S k)) ∧ W.grownBy w' none) := hC
 clear hS hC
 obtain ⟨w1, hmk, ho1, hg1⟩ := run_make_n w n hn
 have HO1 : Hid (OwnN w1 w.heap.size (.slice (some ⟨w.heap.size, 0, none⟩) n n) n (fun _ => 0)) := ho1
 have HG1 : Hid (w.grownBy w1 none) := hg1
 clear ho1 hg1
 go_enter Tryz.func44, Tryz.ntmps44
 go_wp2_with fail
 go_loopw [7, 13] (fun e i wr => ∃ k : Nat, i = .int .i64 k ∧ e = .int .i64 (Lk.pos S k) ∧ k ≤ n ∧ OwnN wr w.heap.size (.slice (some ⟨w.heap.size, 0, none⟩) n n) n (fun i => if i < k then Lk.pos S i else 0) ∧ w.grownBy wr none) (fun _ i _ => n - (intOf i).toNat)
 case atStart => exact ⟨0, rfl, rfl, Nat.zero_le _, HO1.out.congr (fun i _ => by simp), HG1.out⟩
 case round =>
  obtain ⟨k, rfl, rfl, hk, ho, hg⟩ := hrel
  have HO : Hid (OwnN wr w.heap.size (.slice (some ⟨w.heap.size, 0, none⟩) n n) n (fun i => if i < k then Lk.pos S i else 0)) := ho
  have HG : Hid (w.grownBy wr none) := hg
  clear ho hg
  by_cases hkn : k < n
  ·have hkn' : (k : Int) < n := by omega
   have f1 := HO.out.frozen k
   have c1 := HO.out.cell hkn
   have hb1 := HS.out k (by omega)
   have hb2 := HS.out (k + 1) (by omega)
   rw [Lk.pos_succ] at hb2
   have g2 : wr.grownBy (wr.setCell ⟨w.heap.size, k, none⟩ (.int .i64 (Lk.pos S k))) (some w.heap.size) := grown_set _ _ _ _
   have HG2 : Hid (w.grownBy (wr.setCell ⟨w.heap.size, k, none⟩ (.int .i64 (Lk.pos S k))) none) := grown_two HG.out g2 (Nat.le_refl _)
   have HO2 : Hid (OwnN (wr.setCell ⟨w.heap.size, k, none⟩ (.int .i64 (Lk.pos S k))) w.heap.size (.slice (some ⟨w.heap.size, 0, none⟩) n n) n (fun i => if i < k + 1 then Lk.pos S i else 0)) := (HO.out.set hkn _).congr (fun i hi => by
    unfold setF
    by_cases e : i = k
    ·subst e; simp
    ·by_cases h2 : i < k
     ·simp [e, h2, show i < k + 1 by omega]
     ·simp [e, h2, show ¬ i < k + 1 by omega])
   clear g2
   go_wp2_with (go_at_call 93; refine (HC.out k hkn _ HG2.out).mono ?_; rintro e w3 ⟨rfl, hg3⟩)
   go_roundw
   case rel => exact ⟨k + 1, by go_num, by rw [Lk.pos_succ], by omega, HO2.out.grow hg3, gtr HG2.out hg3⟩
   case measure => simp [intOf]; omega
  ·obtain rfl : k = n := by omega
   go_wp2
   go_ret2
   exact ⟨rfl, HO.out.congr (fun i hi => by simp [hi]), HG.out⟩
theorem places_r (x : Value) (n : Nat) (S : Nat → Int) (w : World) (hn : (n : Int) ≤ 8796093022208) (hS : ∀ k, k ≤ n → 0 ≤ Lk.pos S k ∧ Lk.pos S k ≤ 4611686018427387904)
  (hC : ∀ k, k < n → ∀ W, w.grownBy W none → Calls Tryz.prog 45 #[x, .int .i64 k] W fun e w' => e = .returned (.int .i64 (S k)) ∧ W.grownBy w' none) :
  Calls Tryz.prog 44 #[.int .i64 n, .func (.func 45) #[x] #[]] w fun e w' => e = .returned (.tuple #[.slice (some ⟨w.heap.size, 0, none⟩) n n, .int .i64 (Lk.pos S n)]) ∧
   OwnN w' w.heap.size (.slice (some ⟨w.heap.size, 0, none⟩) n n) n (Lk.pos S) ∧ w.grownBy w' none := by
 have HS : Hid (∀ k, k ≤ n → 0 ≤ Lk.pos S k ∧ Lk.pos S k ≤ 4611686018427387904) := hS
 have HC : Hid (∀ k, k < n → ∀ W, w.grownBy W none → Calls Tryz.prog 45 #[x, .int .i64 k] W fun e w' => e = .returned (.int .i64 (S k)) ∧ W.grownBy w' none) := hC
 clear hS hC
 obtain ⟨w1, hmk, ho1, hg1⟩ := run_make_n w n hn
 have HO1 : Hid (OwnN w1 w.heap.size (.slice (some ⟨w.heap.size, 0, none⟩) n n) n (fun _ => 0)) := ho1
 have HG1 : Hid (w.grownBy w1 none) := hg1
 clear ho1 hg1
 go_enter Tryz.func44, Tryz.ntmps44
 go_wp2_with fail
 go_loopw [7, 13] (fun e i wr => ∃ k : Nat, i = .int .i64 k ∧ e = .int .i64 (Lk.pos S k) ∧ k ≤ n ∧ OwnN wr w.heap.size (.slice (some ⟨w.heap.size, 0, none⟩) n n) n (fun i => if i < k then Lk.pos S i else 0) ∧ w.grownBy wr none) (fun _ i _ => n - (intOf i).toNat)
 case atStart => exact ⟨0, rfl, rfl, Nat.zero_le _, HO1.out.congr (fun i _ => by simp), HG1.out⟩
 case round =>
  obtain ⟨k, rfl, rfl, hk, ho, hg⟩ := hrel
  have HO : Hid (OwnN wr w.heap.size (.slice (some ⟨w.heap.size, 0, none⟩) n n) n (fun i => if i < k then Lk.pos S i else 0)) := ho
  have HG : Hid (w.grownBy wr none) := hg
  clear ho hg
  by_cases hkn : k < n
  ·have hkn' : (k : Int) < n := by omega
   have f1 := HO.out.frozen k
   have c1 := HO.out.cell hkn
   have hb1 := HS.out k (by omega)
   have hb2 := HS.out (k + 1) (by omega)
   rw [Lk.pos_succ] at hb2
   have g2 : wr.grownBy (wr.setCell ⟨w.heap.size, k, none⟩ (.int .i64 (Lk.pos S k))) (some w.heap.size) := grown_set _ _ _ _
   have HG2 : Hid (w.grownBy (wr.setCell ⟨w.heap.size, k, none⟩ (.int .i64 (Lk.pos S k))) none) := grown_two HG.out g2 (Nat.le_refl _)
   have HO2 : Hid (OwnN (wr.setCell ⟨w.heap.size, k, none⟩ (.int .i64 (Lk.pos S k))) w.heap.size (.slice (some ⟨w.heap.size, 0, none⟩) n n) n (fun i => if i < k + 1 then Lk.pos S i else 0)) := (HO.out.set hkn _).congr (fun i hi => by
    unfold setF
    by_cases e : i = k
    ·subst e; simp
    ·by_cases h2 : i < k
     ·simp [e, h2, show i < k + 1 by omega]
     ·simp [e, h2, show ¬ i < k + 1 by omega])
   clear g2
   go_wp2_with (go_at_call 45; refine (HC.out k hkn _ HG2.out).mono ?_; rintro e w3 ⟨rfl, hg3⟩)
   go_roundw
   case rel => exact ⟨k + 1, by go_num, by rw [Lk.pos_succ], by omega, HO2.out.grow hg3, gtr HG2.out hg3⟩
   case measure => simp [intOf]; omega
  ·obtain rfl : k = n := by omega
   go_wp2
   go_ret2
   exact ⟨rfl, HO.out.congr (fun i hi => by simp [hi]), HG.out⟩
theorem run_mkf (fn : Fn) (first cap : Array Value) (w : World) : (Instr.makeFunc fn first cap).run Tryz.prog w = .ok (.func fn first cap) w := rfl
theorem pplaces_any {N : Nat} {w : World} {B fe : Nat} {P : Lk.PcV} {ia ma : Option Addr} {ic mc : Nat} {sv : Value} {base : Nat} {S : Nat → Int} (h : Pt N w B fe P ia ma ic mc sv) (ho : OwnN w base sv P.n S) (hn : (P.n : Int) ≤ 8796093022208) (hS : ∀ k, k ≤ P.n → 0 ≤ Lk.pos S k ∧ Lk.pos S k ≤ 4611686018427387904) :
  Calls Tryz.prog 63 #[.pointer (some ⟨B, 0, none⟩)] w fun e w' => e = .returned (.tuple #[.slice (some ⟨w.heap.size, 0, none⟩) P.n P.n, .int .i64 (Lk.pos S P.n)]) ∧
   OwnN w' w.heap.size (.slice (some ⟨w.heap.size, 0, none⟩) P.n P.n) P.n (Lk.pos S) ∧ w.grownBy w' none := by
 have HC : Hid (∀ k, k < P.n → ∀ W, w.grownBy W none → Calls Tryz.prog 93 #[.pointer (some ⟨B, 0, none⟩), .int .i64 k] W fun e w' => e = .returned (.int .i64 (S k)) ∧ W.grownBy w' none) := fun k hk W hW => (psize_any (h.grow hW) (ho.grow hW) hk).mono (by rintro e w' ⟨rfl, rfl⟩; exact ⟨rfl, gr0⟩)
 have HS : Hid (∀ k, k ≤ P.n → 0 ≤ Lk.pos S k ∧ Lk.pos S k ≤ 4611686018427387904) := hS
 have c1 := h.c1
 clear hS h ho
 generalize P.n = n at *
 have hmf := run_mkf
 go_enter Tryz.func63, Tryz.ntmps63
 go_wp2_with (go_at_call 44; refine (places_p _ n S _ hn HS.out HC.out).mono ?_; rintro e w1 ⟨rfl, ho1, hg1⟩)
 go_ret2
 exact ⟨rfl, ho1, hg1⟩
structure PtA where
 B : Nat
 T : Nat
 ia : Option Addr
 ic : Nat
 ma : Option Addr
 mc : Nat
structure Rw (N : Nat) (w : World) (rv : Value) (K fe : Nat) (V : Nat → Lk.PcV) (A : Nat → PtA) (S : Nat → Nat → Int) : Prop where
 own : w.ownsRow N 59 1 rv K ((List.range K).map fun k => Value.pointer (some ⟨(A k).B, 0, none⟩))
 pt : ∀ k, k < K → Pt N w (A k).B fe (V k) (A k).ia (A k).ma (A k).ic (A k).mc (.slice (some ⟨(A k).T, 0, none⟩) (V k).n (V k).n)
 sz : ∀ k, k < K → OwnN w N (.slice (some ⟨(A k).T, 0, none⟩) (V k).n (V k).n) (V k).n (S k)
 dis : ∀ j k, j < K → k < K → j ≠ k → (A j).T ≠ (A k).T
theorem Rw.ch {N : Nat} {w w' : World} {rv : Value} {K fe : Nat} {V : Nat → Lk.PcV} {A : Nat → PtA} {S : Nat → Nat → Int} {l : List Nat} (h : Rw N w rv K fe V A S) (hg : Ch w w' l) (hl : ∀ k, k ∈ l → N ≤ k) (hR : ∀ k, rv.ownBlock = some k → k ∉ l) (hB : ∀ k, k < K → (A k).B ∉ l) (hT : ∀ k, k < K → (A k).T ∉ l) : Rw N w' rv K fe V A S where
 own := ownsRow_ch h.own hg hR
 pt := fun k hk => (h.pt k hk).ch hg hl (hB k hk)
 sz := fun k hk => (h.sz k hk).ch hg (fun b hb => by simp [Value.ownBlock] at hb; subst hb; exact hT k hk)
 dis := h.dis
theorem Rw.grow {N : Nat} {w w' : World} {rv : Value} {K fe : Nat} {V : Nat → Lk.PcV} {A : Nat → PtA} {S : Nat → Nat → Int} (h : Rw N w rv K fe V A S) (hg : w.grownBy w' none) : Rw N w' rv K fe V A S :=
 h.ch (l := []) (Ch.of hg) (by simp) (by simp) (by simp) (by simp)
theorem Rw.slice {N : Nat} {w : World} {rv : Value} {K fe : Nat} {V : Nat → Lk.PcV} {A : Nat → PtA} {S : Nat → Nat → Int} (h : Rw N w rv K fe V A S) : ∃ a c, rv = .slice a K c ∧ K ≤ c ∧ c ≤ maxLen ∧ (0 < K → ∃ R, a = some ⟨R, 0, none⟩ ∧ ∀ k, k < K → w.cell? ⟨R, k, none⟩ = some (.pointer (some ⟨(A k).B, 0, none⟩))) := by
 rcases h.own.2 with ⟨rfl, h0⟩ | ⟨T, c, cur, rfl, e2, e3, e4, e5, _⟩
 ·exact ⟨none, 0, by rw [h0], by omega, Nat.zero_le _, fun h => by omega⟩
 ·refine ⟨some ⟨T, 0, none⟩, c, rfl, e4, e5, fun _ => ⟨T, rfl, fun k hk => ?_⟩⟩
  rw [World.ownsRow.cellAt h.own k (by omega), List.getElem?_map, List.getElem?_range hk]
  rfl
structure Lim (K : Nat) (V : Nat → Lk.PcV) (S : Nat → Nat → Int) : Prop where
 n : ∀ k, k < K → ((V k).n : Int) ≤ 8796093022208
 s : ∀ k, k < K → ∀ i, i < (V k).n → 0 ≤ S k i ∧ S k i ≤ 40
theorem pos_lim {s : Nat → Int} {B : Int} : ∀ {n : Nat}, (∀ i, i < n → 0 ≤ s i ∧ s i ≤ B) → 0 ≤ Lk.pos s n ∧ Lk.pos s n ≤ B * n
 | 0, _ => by simp [Lk.pos]
 | n + 1, h => by
  have h1 := pos_lim (n := n) (fun i hi => h i (by omega))
  have h2 := h n (by omega)
  rw [Lk.pos_succ, show ((n + 1 : Nat) : Int) = (n : Int) + 1 by omega, Int.mul_add]
  omega
theorem Lim.part {K : Nat} {V : Nat → Lk.PcV} {S : Nat → Nat → Int} (h : Lim K V S) {k : Nat} (hk : k < K) : ∀ i, i ≤ (V k).n → 0 ≤ Lk.pos (S k) i ∧ Lk.pos (S k) i ≤ 351843720888320 := fun i hi => by
 have := pos_lim (n := i) (s := S k) (B := 40) (fun j hj => h.s k hk j (by omega))
 have := h.n k hk
 omega
def ends (V : Nat → Lk.PcV) (S : Nat → Nat → Int) (k : Nat) : Int := Lk.pos (S k) (V k).n
theorem Lim.row {K : Nat} {V : Nat → Lk.PcV} {S : Nat → Nat → Int} (h : Lim K V S) (hK : K ≤ 33) : ∀ k, k ≤ K → 0 ≤ Lk.pos (ends V S) k ∧ Lk.pos (ends V S) k ≤ 11610842789314560 := fun k hk => by
 have := pos_lim (n := k) (s := ends V S) (B := 351843720888320) (fun j hj => h.part (k := j) (by omega) _ (Nat.le_refl _))
 omega
theorem rwsize_any {N : Nat} {w : World} {rv : Value} {K fe : Nat} {V : Nat → Lk.PcV} {A : Nat → PtA} {S : Nat → Nat → Int} (h : Rw N w rv K fe V A S) (hl : Lim K V S) {k : Nat} (hk : k < K) :
  Calls Tryz.prog 45 #[rv, .int .i64 k] w fun e w' => e = .returned (.int .i64 (ends V S k)) ∧ w.grownBy w' none := by
 have hk' : (k : Int) < K := by omega
 obtain ⟨a, c, rfl, hc, hcm, ha⟩ := h.slice
 obtain ⟨R, rfl, hcs⟩ := ha (by omega)
 have cc := hcs k hk
 have HP : Hid (∀ W, w.grownBy W none → Calls Tryz.prog 63 #[.pointer (some ⟨(A k).B, 0, none⟩)] W fun e w' => e = .returned (.tuple #[.slice (some ⟨W.heap.size, 0, none⟩) (V k).n (V k).n, .int .i64 (ends V S k)]) ∧ W.grownBy w' none) := fun W hW =>
  (pplaces_any ((h.pt k hk).grow hW) ((h.sz k hk).grow hW) (hl.n k hk) (fun i hi => by have := hl.part hk i hi; omega)).mono (by rintro e w' ⟨rfl, _, hg⟩; exact ⟨rfl, hg⟩)
 generalize (A k).B = B at *
 generalize (V k).n = n at *
 generalize ends V S k = E at *
 clear h hl hcs ha
 go_enter Tryz.func45, Tryz.ntmps45
 go_wp2_with (go_at_call 63; refine (HP.out _ gr0).mono ?_; rintro e w1 ⟨rfl, hg1⟩)
 go_ret
 exact ⟨rfl, hg1⟩
theorem rplaces_any {N : Nat} {w : World} {rv : Value} {K fe : Nat} {V : Nat → Lk.PcV} {A : Nat → PtA} {S : Nat → Nat → Int} (h : Rw N w rv K fe V A S) (hl : Lim K V S) (hK : K ≤ 33) :
  Calls Tryz.prog 23 #[rv] w fun e w' => e = .returned (.tuple #[.slice (some ⟨w.heap.size, 0, none⟩) K K, .int .i64 (Lk.pos (ends V S) K)]) ∧
   OwnN w' w.heap.size (.slice (some ⟨w.heap.size, 0, none⟩) K K) K (Lk.pos (ends V S)) ∧ w.grownBy w' none := by
 have HC : Hid (∀ k, k < K → ∀ W, w.grownBy W none → Calls Tryz.prog 45 #[rv, .int .i64 k] W fun e w' => e = .returned (.int .i64 (ends V S k)) ∧ W.grownBy w' none) := fun k hk W hW => rwsize_any (h.grow hW) hl hk
 have HS : Hid (∀ k, k ≤ K → 0 ≤ Lk.pos (ends V S) k ∧ Lk.pos (ends V S) k ≤ 4611686018427387904) := fun k hk => by have := hl.row hK k hk; omega
 obtain ⟨a, c, rfl, hc, hcm, ha⟩ := h.slice
 generalize ends V S = E at *
 clear h hl ha
 have hmf := run_mkf
 go_enter Tryz.func23, Tryz.ntmps23
 go_wp2_with (go_at_call 44; refine (places_r _ K E _ (by omega) HS.out HC.out).mono ?_; rintro e w1 ⟨rfl, ho1, hg1⟩)
 go_ret2
 exact ⟨rfl, ho1, hg1⟩
theorem large_any {N : Nat} {w : World} {rv : Value} {K fe : Nat} {V : Nat → Lk.PcV} {A : Nat → PtA} {S : Nat → Nat → Int} (h : Rw N w rv K fe V A S) (hl : Lim K V S) (hK : K ≤ 33) :
  Calls Tryz.prog 21 #[rv] w fun e w' => e = .returned (.bool (decide (1048576 < Lk.pos (ends V S) K))) ∧ w.grownBy w' none := by
 have HP : Hid (∀ W, w.grownBy W none → Calls Tryz.prog 23 #[rv] W fun e w' => e = .returned (.tuple #[.slice (some ⟨W.heap.size, 0, none⟩) K K, .int .i64 (Lk.pos (ends V S) K)]) ∧ W.grownBy w' none) := fun W hW => (rplaces_any (h.grow hW) hl hK).mono (by rintro e w' ⟨rfl, _, hg⟩; exact ⟨rfl, hg⟩)
 generalize Lk.pos (ends V S) K = E at *
 clear h hl
 go_enter Tryz.func21, Tryz.ntmps21
 go_wp2_with (go_at_call 23; refine (HP.out _ gr0).mono ?_; rintro e w1 ⟨rfl, hg1⟩)
 go_ret
 exact ⟨rfl, hg1⟩
theorem pover_any {N : Nat} {w : World} {B fe : Nat} {P : Lk.PcV} {ia ma : Option Addr} {ic mc : Nat} {sv : Value} {t p : Int} (h : Pt N w B fe P ia ma ic mc sv) (hP : P.Ok t p) {j m : Nat} (hj : j < P.n) (hm : m < P.n) :
  Calls Tryz.prog 67 #[.pointer (some ⟨B, 0, none⟩), .int .i64 j, .int .i64 m] w fun e w' => e = .returned (.int .i64 (if Lk.jmpB (P.I j).op then (P.sh t).over j m else 0)) ∧ w.grownBy w' none := by
 have hj' : (j : Int) < P.n := by omega
 obtain ⟨b, off, rfl, hb, hin, hr⟩ := h.ins.at hj
 have c1 := h.c1
 have HJ : Hid (∀ W, Calls Tryz.prog 46 #[.agg #[.int .i64 (P.I j).op, .int .i64 (P.I j).a, .int .i64 (P.I j).b, .int .i64 (P.I j).c, .int .i64 (P.I j).k, .int .i64 (P.I j).sub, .int .i64 (P.I j).scale, .int .i64 (P.I j).imm, .int .i64 (P.I j).label]] W fun e w' => e = .returned (.bool (Lk.jmpB (P.I j).op)) ∧ W.grownBy w' none) := fun W => isjump_any (P.I j) W
 cases hjj : Lk.jmpB (P.I j).op
 ·rw [hjj] at HJ
  obtain ⟨d0, d1, d2, d3, d4, d5, d6, d7, d8⟩ := hin
  generalize P.n = n at *
  clear h hr
  go_enter Tryz.func67, Tryz.ntmps67
  go_wp2_with (go_at_call 46; refine (HJ.out _).mono ?_; rintro e w1 ⟨rfl, hg1⟩)
  go_ret
  exact ⟨rfl, hg1⟩
 ·rw [hjj] at HJ
  have hl := Lk.lab_jmp (hP.may hj).1 hjj
  have HT : Hid (∀ W, w.grownBy W none → Calls Tryz.prog 65 #[.pointer (some ⟨B, 0, none⟩), .int .i64 j] W fun e w' => e = .returned (.int .i64 (P.M (P.I j).label.toNat)) ∧ ∃ d, w' = W.drewN d) := fun W hW => ptarget_any (h.grow hW) hj hl.2.1 hl.2.2
  have hM := hP.marks (P.I j).label.toNat (by omega)
  obtain ⟨x, hx⟩ : ∃ x : Nat, P.M (P.I j).label.toNat = x := ⟨(P.M (P.I j).label.toNat).toNat, by omega⟩
  rw [hx] at HT
  have ho : (P.sh t).over j m = if j < m ∧ m < x then 1 else if x ≤ m ∧ m < j then -1 else 0 := by
   have : (P.sh t).tg j = x := by show (P.M (P.I j).label.toNat).toNat = x; rw [hx]; rfl
   unfold Lk.Sh.over
   rw [this]
  obtain ⟨o, hoo⟩ : ∃ o, (P.sh t).over j m = o := ⟨_, rfl⟩
  simp only [if_true]
  rw [hoo] at ho ⊢
  have HO : Hid (o = if j < m ∧ m < x then 1 else if x ≤ m ∧ m < j then -1 else 0) := ho
  clear ho hoo hx hM hl hP
  obtain ⟨d0, d1, d2, d3, d4, d5, d6, d7, d8⟩ := hin
  generalize P.n = n at *
  clear h hr
  go_enter Tryz.func67, Tryz.ntmps67
  go_wp2_with (first | (go_at_call 46; refine (HJ.out _).mono ?_; rintro e w1 ⟨rfl, hg1⟩) | (go_at_call 65; refine (HT.out _ hg1).mono ?_; rintro e w2 ⟨rfl, d, rfl⟩))
  all_goals (
   go_ret
   refine ⟨?_, grown_drewN hg1 d⟩
   rw [HO.out]
   first
   | (rw [if_pos (by omega)]; rfl)
   | (rw [if_neg (by omega), if_pos (by omega)]; rfl)
   | (rw [if_neg (by omega), if_neg (by omega)]; rfl))
theorem plabel_any {N : Nat} {w : World} {B fe : Nat} {P : Lk.PcV} {ia ma : Option Addr} {ic mc : Nat} {sv : Value} (h : Pt N w B fe P ia ma ic mc sv) (v : InV) (p : Int) :
  Calls Tryz.prog 62 #[.pointer (some ⟨B, 0, none⟩), .agg #[.int .i64 v.op, .int .i64 v.a, .int .i64 v.b, .int .i64 v.c, .int .i64 v.k, .int .i64 v.sub, .int .i64 v.scale, .int .i64 v.imm, .int .i64 v.label], .int .i64 p] w fun e w' => e = .returned (.bool (Lk.labB P.m p v)) ∧ w.grownBy w' none := by
 have HJ : Hid (∀ W, Calls Tryz.prog 46 #[.agg #[.int .i64 v.op, .int .i64 v.a, .int .i64 v.b, .int .i64 v.c, .int .i64 v.k, .int .i64 v.sub, .int .i64 v.scale, .int .i64 v.imm, .int .i64 v.label]] W fun e w' => e = .returned (.bool (Lk.jmpB v.op)) ∧ W.grownBy w' none) := fun W => isjump_any v W
 have HK : Hid (∀ W, Calls Tryz.prog 48 #[.agg #[.int .i64 v.op, .int .i64 v.a, .int .i64 v.b, .int .i64 v.c, .int .i64 v.k, .int .i64 v.sub, .int .i64 v.scale, .int .i64 v.imm, .int .i64 v.label]] W fun e w' => e = .returned (.bool (v.op == 23)) ∧ W.grownBy w' none) := fun W => iscall_any v W
 have c2 : (w.alloc (.cells #[.int .i64 v.op, .int .i64 v.a, .int .i64 v.b, .int .i64 v.c, .int .i64 v.k, .int .i64 v.sub, .int .i64 v.scale, .int .i64 v.imm, .int .i64 v.label] 50)).cell? ⟨B, 2, none⟩ = some (.slice ma P.m mc) := (World.grownBy_alloc w _ none).cell h.c2 (by simp)
 have IN := InstAt.new w v
 generalize hm : P.m = m at *
 clear h hm
 have hA := World.grownBy_alloc w (.cells #[.int .i64 v.op, .int .i64 v.a, .int .i64 v.b, .int .i64 v.c, .int .i64 v.k, .int .i64 v.sub, .int .i64 v.scale, .int .i64 v.imm, .int .i64 v.label] 50) none
 cases hj : Lk.jmpB v.op
 ·rw [hj] at HJ
  cases hc : v.op == 23
  ·rw [hc] at HK
   have HL : Hid (Lk.labB m p v = (v.label == 0)) := by show _ = _; unfold Lk.labB; rw [if_neg (by rw [hj]; decide), if_neg (by simpa using hc)]
   clear hj hc
   go_enter Tryz.func62, Tryz.ntmps62
   go_wp2_with (first | (go_at_call 46; refine (HJ.out _).mono ?_; rintro e w1 ⟨rfl, hg1⟩; obtain ⟨d0, d1, d2, d3, d4, d5, d6, d7, d8, dz⟩ := IN.kept hg1 (by simp)) | (go_at_call 48; refine (HK.out _).mono ?_; rintro e w2 ⟨rfl, hg2⟩; obtain ⟨e0, e1, e2, e3, e4, e5, e6, e7, e8, ez⟩ := (IN.kept hg1 (by simp)).kept hg2 (by simp)))
   go_ret
   rw [HL.out]
   exact ⟨rfl, gtr hA (gtr hg1 hg2)⟩
  ·rw [hc] at HK
   have HL : Hid (Lk.labB m p v = (v.imm == 0 && (decide (0 ≤ v.label) && decide (v.label < p)))) := by show _ = _; unfold Lk.labB; rw [if_neg (by rw [hj]; decide), if_pos (by simpa using hc)]
   clear hj hc
   cases h1 : v.imm == 0
   ·rw [show Lk.labB m p v = false from by rw [HL.out, h1]; rfl]
    clear HL
    have h1' : v.imm ≠ 0 := by simpa using h1
    go_enter Tryz.func62, Tryz.ntmps62
    go_wp2_with (first | (go_at_call 46; refine (HJ.out _).mono ?_; rintro e w1 ⟨rfl, hg1⟩; obtain ⟨d0, d1, d2, d3, d4, d5, d6, d7, d8, dz⟩ := IN.kept hg1 (by simp)) | (go_at_call 48; refine (HK.out _).mono ?_; rintro e w2 ⟨rfl, hg2⟩; obtain ⟨e0, e1, e2, e3, e4, e5, e6, e7, e8, ez⟩ := (IN.kept hg1 (by simp)).kept hg2 (by simp)))
    go_ret
    exact ⟨rfl, gtr hA (gtr hg1 hg2)⟩
   ·by_cases h2 : 0 ≤ v.label
    ·rw [show Lk.labB m p v = decide (v.label < p) from by rw [HL.out, h1]; simp [h2]]
     clear HL
     have h1' : v.imm = 0 := by simpa using h1
     obtain ⟨op, a, b, c, k, sub, sc, imm, lb⟩ := v
     simp only at *
     subst h1'
     go_enter Tryz.func62, Tryz.ntmps62
     go_wp2_with (first | (go_at_call 46; refine (HJ.out _).mono ?_; rintro e w1 ⟨rfl, hg1⟩; obtain ⟨d0, d1, d2, d3, d4, d5, d6, d7, d8, dz⟩ := IN.kept hg1 (by simp)) | (go_at_call 48; refine (HK.out _).mono ?_; rintro e w2 ⟨rfl, hg2⟩; obtain ⟨e0, e1, e2, e3, e4, e5, e6, e7, e8, ez⟩ := (IN.kept hg1 (by simp)).kept hg2 (by simp)))
     go_ret
     exact ⟨rfl, gtr hA (gtr hg1 hg2)⟩
    ·rw [show Lk.labB m p v = false from by rw [HL.out, h1]; simp [h2]]
     clear HL
     have h1' : v.imm = 0 := by simpa using h1
     obtain ⟨op, a, b, c, k, sub, sc, imm, lb⟩ := v
     simp only at *
     subst h1'
     have h2' : lb < 0 := by omega
     have h3' : decide (0 ≤ lb) = false := by simp [h2]
     go_enter Tryz.func62, Tryz.ntmps62
     go_wp2_with (first | (go_at_call 46; refine (HJ.out _).mono ?_; rintro e w1 ⟨rfl, hg1⟩; obtain ⟨d0, d1, d2, d3, d4, d5, d6, d7, d8, dz⟩ := IN.kept hg1 (by simp)) | (go_at_call 48; refine (HK.out _).mono ?_; rintro e w2 ⟨rfl, hg2⟩; obtain ⟨e0, e1, e2, e3, e4, e5, e6, e7, e8, ez⟩ := (IN.kept hg1 (by simp)).kept hg2 (by simp)))
     go_ret
     exact ⟨rfl, gtr hA (gtr hg1 hg2)⟩
 ·rw [hj] at HJ
  have HL : Hid (Lk.labB m p v = (v.imm == 0 && (decide (0 ≤ v.label) && decide (v.label < m)))) := by show _ = _; unfold Lk.labB; rw [if_pos hj]
  clear hj
  cases h1 : v.imm == 0
  ·rw [show Lk.labB m p v = false from by rw [HL.out, h1]; rfl]
   clear HL
   have h1' : v.imm ≠ 0 := by simpa using h1
   go_enter Tryz.func62, Tryz.ntmps62
   go_wp2_with (first | (go_at_call 46; refine (HJ.out _).mono ?_; rintro e w1 ⟨rfl, hg1⟩; obtain ⟨d0, d1, d2, d3, d4, d5, d6, d7, d8, dz⟩ := IN.kept hg1 (by simp); have e2 := hg1.cell c2 (by simp)))
   go_quiet (fail)
   go_wp2
   go_ret
   exact ⟨rfl, grown_drewN (gtr hA hg1) _⟩
  ·by_cases h2 : 0 ≤ v.label
   ·rw [show Lk.labB m p v = decide (v.label < m) from by rw [HL.out, h1]; simp [h2]]
    clear HL
    have h1' : v.imm = 0 := by simpa using h1
    obtain ⟨op, a, b, c, k, sub, sc, imm, lb⟩ := v
    simp only at *
    subst h1'
    go_enter Tryz.func62, Tryz.ntmps62
    go_wp2_with (first | (go_at_call 46; refine (HJ.out _).mono ?_; rintro e w1 ⟨rfl, hg1⟩; obtain ⟨d0, d1, d2, d3, d4, d5, d6, d7, d8, dz⟩ := IN.kept hg1 (by simp); have e2 := hg1.cell c2 (by simp)))
    go_quiet (fail)
    go_wp2
    go_ret
    exact ⟨rfl, grown_drewN (gtr hA hg1) _⟩
   ·rw [show Lk.labB m p v = false from by rw [HL.out, h1]; simp [h2]]
    clear HL
    have h1' : v.imm = 0 := by simpa using h1
    obtain ⟨op, a, b, c, k, sub, sc, imm, lb⟩ := v
    simp only at *
    subst h1'
    have h2' : lb < 0 := by omega
    have h3' : decide (0 ≤ lb) = false := by simp [h2]
    go_enter Tryz.func62, Tryz.ntmps62
    go_wp2_with (first | (go_at_call 46; refine (HJ.out _).mono ?_; rintro e w1 ⟨rfl, hg1⟩; obtain ⟨d0, d1, d2, d3, d4, d5, d6, d7, d8, dz⟩ := IN.kept hg1 (by simp); have e2 := hg1.cell c2 (by simp)))
    go_quiet (fail)
    go_wp2
    go_ret
    exact ⟨rfl, grown_drewN (gtr hA hg1) _⟩
theorem OwnZ.one {w : World} {base : Nat} {v : Value} {l : List Int} {x : Int} (h : w.ownsRow base 3 1 v (l.length + 1) (l.map (Value.int .i64) ++ [.int .i64 x])) : OwnZ w base v (l ++ [x]) := by
 unfold OwnZ
 simpa using h
theorem OwnZ.cast {w : World} {base : Nat} {v : Value} {l l' : List Int} (h : OwnZ w base v l) (e : l' = l) : OwnZ w base v l' := by rw [e]; exact h
theorem wp_appZ {ops : Array Oper} {rest : List Oper} {o : Oper} {a : Act} {Q : Exit → Act → World → Prop} {W : World} (hgd : o.guard = none) (s x : Operand)
  (ho : o.op = .call { callee := .builtin .append, args := #[s, x], argTypes := #[30, 30] }) (base : Nat) (v : Value) (l : List Int) (X : Int) (hs : a.eval s = v) (hown : OwnZ W base v l)
  (hx : a.eval x = .slice (some ⟨W.heap.size, 0, none⟩) 1 1) (hl : l.length ≤ 2000000) (hb : base ≤ W.heap.size)
  (h : ∀ v' w', OwnZ w' base v' (l ++ [X]) → W.grownBy w' v.ownBlock → wpList Tryz.prog ops Q rest (a.put o.dst v') w') : wpList Tryz.prog ops Q (o :: rest) a (W.alloc (Obj.cells #[.int .i64 X] 3)) := by
 obtain ⟨i, hi, hz0, hz1, hz2⟩ := info_parts info_int
 refine wpList_append_own _ hgd s x 30 ho base 3 i (.int .i64 0) 1 8 Tryz.underlying30 hi hz0 hz1 hz2 rfl (by decide) v l.length (l.map (Value.int .i64)) hs (World.ownsRow.alloc hown _) ⟨W.heap.size, 0, none⟩ 1 1 [.int .i64 X] hx rfl
  (by intro j u hj; match j, hj with | 0, hj => simp at hj; subst hj; simp [Addr.add]) (by simp; rfl) (by unfold maxLen; omega) (by omega) (by simp; omega) ?_
 intro v' w2 ho2 hg2 _
 exact h v' w2 (OwnZ.one ho2) (gtr (grown_noneR _ gal) hg2)
theorem own_new {w w1 w2 : World} {v : Value} {row : Option Nat} (g1 : w.grownBy w1 none) (g2 : w1.grownBy w2 row) (h : ∀ b, row = some b → w.heap.size ≤ b) : w.grownBy w2 none :=
 ⟨g2.os.trans g1.os, g2.tape.trans g1.tape, g2.output.trans g1.output, Nat.le_trans g1.size g2.size, fun k hk _ => (g2.block k (Nat.lt_of_lt_of_le hk g1.size) (fun e => by have := h k e.symm; omega)).trans (g1.block k hk (by simp))⟩
namespace Lk
def marksB (P : PcV) : Bool := (List.range P.m).all fun i => decide (0 ≤ P.M i) && decide (P.M i ≤ P.n)
theorem marksB_iff {P : PcV} : marksB P = true ↔ ∀ i, i < P.m → 0 ≤ P.M i ∧ P.M i ≤ P.n := by unfold marksB; simp
def jl (P : PcV) : Nat → List Int
 | 0 => []
 | k + 1 => jl P k ++ if jmpB (P.I k).op then [(k : Int)] else []
theorem jl_len (P : PcV) : ∀ k, (jl P k).length ≤ k
 | 0 => Nat.le_refl _
 | k + 1 => by have := jl_len P k; unfold jl; rw [List.length_append]; split <;> simp <;> omega
theorem jl_mem (P : PcV) : ∀ {k : Nat} {x : Int}, x ∈ jl P k ↔ ∃ i : Nat, i < k ∧ x = i ∧ jmpB (P.I i).op = true
 | 0, x => by simp [jl]
 | k + 1, x => by
  unfold jl
  rw [List.mem_append, jl_mem P (k := k)]
  constructor
  ·rintro (⟨i, h1, h2, h3⟩ | h)
   ·exact ⟨i, by omega, h2, h3⟩
   ·split at h
    ·next hj => simp at h; exact ⟨k, by omega, h, hj⟩
    ·cases h
  ·rintro ⟨i, h1, h2, h3⟩
   by_cases e : i = k
   ·subst e; rw [if_pos h3]; exact .inr (by simp [h2])
   ·exact .inl ⟨i, by omega, h2, h3⟩
end Lk
theorem pmarks_any {N : Nat} {w : World} {B fe : Nat} {P : Lk.PcV} {ia ma : Option Addr} {ic mc : Nat} {sv : Value} (h : Pt N w B fe P ia ma ic mc sv) :
  Calls Tryz.prog 39 #[.pointer (some ⟨B, 0, none⟩)] w fun e w' => e = .returned (.bool (Lk.marksB P)) ∧ w' = w := by
 have c1 := h.c1
 have c2 := h.c2
 have hmax : (P.m : Int) ≤ 9223372036854775807 := by have := h.mks.max; have := h.mks.le; unfold maxLen at *; omega
 have HM : Hid (∀ i, i < P.m → ∃ b off, ma = some ⟨b, off, none⟩ ∧ b < N ∧ w.cell? ⟨b, off + i, none⟩ = some (.int .i64 (P.M i))) := fun i hi => h.mks.at hi
 have HB : Hid (∀ b : Bool, (b = true → ∀ i, i < P.m → 0 ≤ P.M i ∧ P.M i ≤ P.n) → (b = false → ∃ i, i < P.m ∧ ¬ (0 ≤ P.M i ∧ P.M i ≤ P.n)) → b = Lk.marksB P) := by
  intro b h1 h2
  cases b
  ·obtain ⟨i, hi, hn⟩ := h2 rfl
   cases hb : Lk.marksB P
   ·rfl
   ·exact absurd (Lk.marksB_iff.1 hb i hi) hn
  ·exact (Lk.marksB_iff.2 (h1 rfl)).symm
 clear h
 obtain ⟨n, hn⟩ : ∃ n, n = P.n := ⟨_, rfl⟩
 obtain ⟨m, hm⟩ : ∃ m, m = P.m := ⟨_, rfl⟩
 rw [← hn] at c1 HB
 rw [← hm] at c2 HM HB hmax
 clear hn hm
 obtain ⟨r, hr⟩ : ∃ r, r = Lk.marksB P := ⟨_, rfl⟩
 rw [← hr] at HB ⊢
 clear hr
 go_enter Tryz.func39, Tryz.ntmps39
 go_wp2
 go_loopw [10] (fun i wr => ∃ k : Nat, i = .int .i64 k ∧ k ≤ m ∧ wr = w ∧ ∀ i, i < k → 0 ≤ P.M i ∧ P.M i ≤ n) (fun i _ => m - (intOf i).toNat)
 case atStart => exact ⟨0, rfl, Nat.zero_le _, rfl, fun i hi => by omega⟩
 case round =>
  obtain ⟨k, rfl, hk, rfl, hall⟩ := hrel
  have HA : Hid (∀ i, i < k → 0 ≤ P.M i ∧ P.M i ≤ n) := hall
  clear hall
  by_cases hkm : k < m
  ·have hkm' : (k : Int) < m := by omega
   obtain ⟨b, off, rfl, hb, hc⟩ := HM.out k hkm
   obtain ⟨x, hx⟩ : ∃ x, x = P.M k := ⟨_, rfl⟩
   rw [← hx] at hc
   have HX : Hid (x = P.M k) := hx
   clear hx
   by_cases h1 : 0 ≤ x
   ·by_cases h2 : x ≤ n
    ·go_wp2
     go_roundw
     case rel => exact ⟨k + 1, by go_num, by omega, by trivial, fun i hi => by
      by_cases e : i = k
      ·subst e; rw [← HX.out]; exact ⟨h1, h2⟩
      ·exact HA.out i (by omega)⟩
     case measure => simp [intOf]; omega
    ·have h2' : n < x := by omega
     go_wp2
     go_ret
     rw [← HB.out false (fun h => by cases h) (fun _ => ⟨k, hkm, by rw [← HX.out]; omega⟩)]
     exact ⟨rfl, rfl⟩
   ·have h1' : x < 0 := by omega
    go_wp2
    go_ret
    rw [← HB.out false (fun h => by cases h) (fun _ => ⟨k, hkm, by rw [← HX.out]; omega⟩)]
    exact ⟨rfl, rfl⟩
  ·obtain rfl : k = m := by omega
   go_wp2
   go_ret
   rw [← HB.out true (fun _ i hi => HA.out i hi) (fun h => by cases h)]
   exact ⟨rfl, rfl⟩
theorem encof_r (w : World) : Calls Tryz.prog 38 #[.int .i64 1] w fun e w' => e = .returned (.tuple #[.func (.func 60) #[] #[], .bool true]) ∧ w' = w := by
 go_enter Tryz.func38, Tryz.ntmps38
 go_wp2
 go_ret2
 exact ⟨rfl, rfl⟩
theorem encof_c (w : World) : Calls Tryz.prog 38 #[.int .i64 2] w fun e w' => e = .returned (.tuple #[.func (.func 61) #[] #[], .bool true]) ∧ w' = w := by
 go_enter Tryz.func38, Tryz.ntmps38
 go_wp2
 go_ret2
 exact ⟨rfl, rfl⟩
theorem encof_no (t : Int) (h1 : (t == 1) = false) (h2 : (t == 2) = false) (w : World) : Calls Tryz.prog 38 #[.int .i64 t] w fun e w' => e = .returned (.tuple #[.nilFunc, .bool false]) ∧ w' = w := by
 go_enter Tryz.func38, Tryz.ntmps38
 go_wp2
 go_ret2
 exact ⟨rfl, rfl⟩
theorem pjumps_any {N : Nat} {w : World} {B fe : Nat} {P : Lk.PcV} {ia ma : Option Addr} {ic mc : Nat} {sv : Value} (h : Pt N w B fe P ia ma ic mc sv) (hn : P.n ≤ 1100000) :
  Calls Tryz.prog 64 #[.pointer (some ⟨B, 0, none⟩)] w fun e w' => ∃ v, e = .returned v ∧ OwnZ w' w.heap.size v (Lk.jl P P.n) ∧ w.grownBy w' none := by
 have c1 := h.c1
 have HI : Hid (∀ k, k < P.n → ∀ W, w.grownBy W none → ∃ b off, ia = some ⟨b, off, none⟩ ∧ b < N ∧ InAt W b (off + k * 9) (P.I k)) := fun k hk W g => by
  obtain ⟨b, off, e, hb, hi, _⟩ := (h.grow g).ins.at hk
  exact ⟨b, off, e, hb, hi⟩
 obtain ⟨n, hnn⟩ : ∃ n, n = P.n := ⟨_, rfl⟩
 rw [← hnn] at c1 HI hn ⊢
 clear h hnn
 have hn' : (n : Int) ≤ 1100000 := by omega
 go_enter Tryz.func64, Tryz.ntmps64
 go_wp2_with fail
 go_loopw [3, 11] (fun v i wr => ∃ k : Nat, i = .int .i64 k ∧ k ≤ n ∧ OwnZ wr w.heap.size v (Lk.jl P k) ∧ w.grownBy wr none) (fun _ i _ => n - (intOf i).toNat)
 case atStart => exact ⟨0, rfl, Nat.zero_le _, World.ownsRow_nil _ _ _ _, gr0⟩
 case round =>
  obtain ⟨al, hal⟩ : ∃ al, al = u3 := ⟨_, rfl⟩
  obtain ⟨k, rfl, hk, ho, hg⟩ := hrel
  rw [← hal] at ho ⊢
  clear hal
  have HO : Hid (OwnZ wr w.heap.size al (Lk.jl P k)) := ho
  have HG : Hid (w.grownBy wr none) := hg
  by_cases hkn : k < n
  ·have hkn' : (k : Int) < n := by omega
   obtain ⟨b, off, rfl, hb, hin⟩ := HI.out k hkn wr hg
   have hl := Lk.jl_len P k
   obtain ⟨v, hv⟩ : ∃ v, v = P.I k := ⟨_, rfl⟩
   rw [← hv] at hin
   have HS : Hid (Lk.jl P (k + 1) = Lk.jl P k ++ if Lk.jmpB v.op then [(k : Int)] else []) := by rw [hv]; exact rfl
   clear hv
   obtain ⟨d0, d1, d2, d3, d4, d5, d6, d7, d8⟩ := hin
   have HJ : Hid (∀ W, Calls Tryz.prog 46 #[.agg #[.int .i64 v.op, .int .i64 v.a, .int .i64 v.b, .int .i64 v.c, .int .i64 v.k, .int .i64 v.sub, .int .i64 v.scale, .int .i64 v.imm, .int .i64 v.label]] W fun e w' => e = .returned (.bool (Lk.jmpB v.op)) ∧ W.grownBy w' none) := fun W => isjump_any v W
   generalize Lk.jl P k = L at *
   obtain ⟨ao, cp, rfl, _⟩ := HO.out.slice
   have hsz : w.heap.size ≤ wr.heap.size := hg.size
   clear ho hg
   cases hjj : Lk.jmpB v.op
   ·rw [hjj] at HJ HS
    go_wp2_with (go_at_call 46; refine (HJ.out _).mono ?_; rintro e w1 ⟨rfl, hg1⟩)
    have GX : wr.grownBy w1 none := gtr gal hg1
    exact ⟨⟨k + 1, by go_num, by omega, (HO.out.grow GX).cast (by rw [HS.out]; simp), gtr HG.out GX⟩, by simp [intOf]; omega⟩
   ·rw [hjj] at HJ HS
    go_wp2_with (first | (go_at_call 46; refine (HJ.out _).mono ?_; rintro e w1 ⟨rfl, hg1⟩; have GX : wr.grownBy w1 none := gtr gal hg1; have HO1 : Hid (OwnZ w1 w.heap.size (.slice ao L.length cp) L) := HO.out.grow GX; have HG1 : Hid (w.grownBy w1 none) := gtr HG.out GX; have hs1 : w.heap.size ≤ w1.heap.size := HG1.out.size; clear GX hg1) | (at_builtin; refine wp_appZ rfl _ _ rfl w.heap.size (.slice ao L.length cp) L (k : Int) rfl HO1.out rfl (by omega) hs1 ?_; intro v' w4 ho4 hg4))
    exact ⟨⟨k + 1, by go_num, by omega, ho4.cast (by rw [HS.out]; simp), own_new (v := .nilFunc) HG1.out hg4 (HO1.out.base)⟩, by simp [intOf]; omega⟩
  ·obtain rfl : k = n := by omega
   go_wp2
   go_ret
   exact ⟨_, rfl, HO.out, HG.out⟩
theorem range_snoc (n : Nat) (g : Nat → Int) : (List.range n).map g ++ [g n] = (List.range (n + 1)).map g := by rw [List.range_succ, List.map_append]; rfl
theorem OwnN.kept {w w' : World} {base n : Nat} {v : Value} {g : Nat → Int} {row : Option Nat} (h : OwnN w base v n g) (hg : w.grownBy w' row) (hne : v.ownBlock = none ∨ v.ownBlock ≠ row) : OwnN w' base v n g := World.ownsRow.kept h hg hne
theorem OwnZ.kept {w w' : World} {base : Nat} {v : Value} {l : List Int} {row : Option Nat} (h : OwnZ w base v l) (hg : w.grownBy w' row) (hne : v.ownBlock = none ∨ v.ownBlock ≠ row) : OwnZ w' base v l := World.ownsRow.kept h hg hne
namespace Lk
def immS (P : PcV) (t : Int) (S : Nat → Int) (i : Nat) : Int := pos S ((P.sh t).tg i) - pos S (i + 1)
def immJ (P : PcV) (t : Int) (S : Nat → Int) (i : Nat) : Int := if jmpB (P.I i).op then immS P t S i else 0
end Lk
theorem pimms_any {N : Nat} {w : World} {B fe : Nat} {P : Lk.PcV} {ia ma : Option Addr} {ic mc : Nat} {sv : Value} {base : Nat} {S : Nat → Int} {t p : Int} (h : Pt N w B fe P ia ma ic mc sv) (ho : OwnN w base sv P.n S) (hP : P.Ok t p) (hn : P.n ≤ 1100000) (hS : ∀ i, i < P.n → 0 ≤ S i ∧ S i ≤ 40) :
  Calls Tryz.prog 41 #[.pointer (some ⟨B, 0, none⟩)] w fun e w' => ∃ T, e = .returned (.slice (some ⟨T, 0, none⟩) P.n P.n) ∧ OwnN w' w.heap.size (.slice (some ⟨T, 0, none⟩) P.n P.n) P.n (Lk.immJ P t S) ∧ w.grownBy w' none := by
 have hpos : ∀ k, k ≤ P.n → 0 ≤ Lk.pos S k ∧ Lk.pos S k ≤ 44000000 := fun k hk => by
  have := pos_lim (n := k) (s := S) (B := 40) (fun i hi => hS i (by omega))
  omega
 have HP : Hid (∀ W, w.grownBy W none → Calls Tryz.prog 63 #[.pointer (some ⟨B, 0, none⟩)] W fun e w' => e = .returned (.tuple #[.slice (some ⟨W.heap.size, 0, none⟩) P.n P.n, .int .i64 (Lk.pos S P.n)]) ∧ OwnN w' W.heap.size (.slice (some ⟨W.heap.size, 0, none⟩) P.n P.n) P.n (Lk.pos S) ∧ W.grownBy w' none) := fun W hW => pplaces_any (h.grow hW) (ho.grow hW) (by omega) (fun k hk => by have := hpos k hk; omega)
 have HJ : Hid (∀ W, w.grownBy W none → Calls Tryz.prog 64 #[.pointer (some ⟨B, 0, none⟩)] W fun e w' => ∃ v, e = .returned v ∧ OwnZ w' W.heap.size v (Lk.jl P P.n) ∧ W.grownBy w' none) := fun W hW => pjumps_any (h.grow hW) hn
 have HT : Hid (∀ i, i < P.n → Lk.jmpB (P.I i).op = true → ∃ x : Nat, (P.sh t).tg i = x ∧ x ≤ P.n ∧ ∀ W, w.grownBy W none → Calls Tryz.prog 65 #[.pointer (some ⟨B, 0, none⟩), .int .i64 i] W fun e w' => e = .returned (.int .i64 x) ∧ W.grownBy w' none) := fun i hi hj => by
  have hl := Lk.lab_jmp (hP.may hi).1 hj
  have hM := hP.marks (P.I i).label.toNat (by omega)
  refine ⟨(P.M (P.I i).label.toNat).toNat, rfl, by omega, fun W hW => ?_⟩
  refine (ptarget_any (h.grow hW) hi hl.2.1 hl.2.2).mono ?_
  rintro e w' ⟨rfl, d, rfl⟩
  refine ⟨?_, grown_drewN gr0 d⟩
  rw [show (((P.M (P.I i).label.toNat).toNat : Nat) : Int) = P.M (P.I i).label.toNat from by omega]
 have HQ : Hid (∀ k, k ≤ P.n → 0 ≤ Lk.pos S k ∧ Lk.pos S k ≤ 44000000) := hpos
 have HM : Hid (∀ x, x ∈ Lk.jl P P.n → ∃ i : Nat, i < P.n ∧ x = i ∧ Lk.jmpB (P.I i).op = true) := fun x hx => (Lk.jl_mem P).1 hx
 have HM2 : Hid (∀ i, i < P.n → Lk.jmpB (P.I i).op = true → (i : Int) ∈ Lk.jl P P.n) := fun i hi hj => (Lk.jl_mem P).2 ⟨i, hi, rfl, hj⟩
 have hjl := Lk.jl_len P P.n
 have c1 := h.c1
 have HC1 : Hid (w.cell? ⟨B, 1, none⟩ = some (.slice ia P.n ic)) := c1
 clear hpos h ho hP hS c1
 obtain ⟨n, hnn⟩ : ∃ n, n = P.n := ⟨_, rfl⟩
 obtain ⟨js, hjs⟩ : ∃ js, js = Lk.jl P P.n := ⟨_, rfl⟩
 rw [← hjs] at HJ HM HM2 hjl
 rw [← hnn] at HP HT HQ HM HM2 HC1 hn hjl ⊢
 clear hjs hnn
 have hn' : (n : Int) ≤ 1100000 := by omega
 go_enter Tryz.func41, Tryz.ntmps41
 go_wp2_with (first
  | (go_at_call 63; refine (HP.out _ gr0).mono ?_; rintro e w1 ⟨rfl, ho1, hg1⟩; have HO1 : Hid (OwnZ w1 w.heap.size (.slice (some ⟨w.heap.size, 0, none⟩) n n) ((List.range n).map (Lk.pos S))) := ho1.z; have HG1 : Hid (w.grownBy w1 none) := hg1; have hs1 := hg1.size; clear ho1 hg1)
  | (at_builtin; refine wp_appZ rfl _ _ rfl w.heap.size (.slice (some ⟨w.heap.size, 0, none⟩) n n) ((List.range n).map (Lk.pos S)) (Lk.pos S n) rfl HO1.out rfl (by simp; omega) hs1 ?_; intro v2 w2 ho2 hg2; rw [range_snoc] at ho2; obtain ⟨a2, c2, rfl, hc2, hm2, ha2⟩ := ho2.slice; obtain ⟨T2, rfl, hT2, hl2⟩ := ha2 (by simp); have HG2 : Hid (w.grownBy w2 none) := own_new (v := .nilFunc) HG1.out hg2 HO1.out.base; have HO2 : Hid (OwnN w2 w.heap.size (.slice (some ⟨T2, 0, none⟩) (n + 1) c2) (n + 1) (Lk.pos S)) := by { have := ho2.n; simp only [List.length_map, List.length_range] at this; exact this.congr (fun i hi => by simp [List.getD_eq_getElem?_getD, hi]) }; clear ho2 hg2 HO1; have c12 := HG2.out.cell HC1.out (by simp); simp only [List.length_map, List.length_range] at *; obtain ⟨w3, hmk, ho3, hg3⟩ := run_make_n w2 n (by omega); have HO3 : Hid (OwnN w3 w2.heap.size (.slice (some ⟨w2.heap.size, 0, none⟩) n n) n (fun _ => 0)) := ho3; have HG3 : Hid (w2.grownBy w3 none) := hg3; clear ho3 hg3)
  | (go_at_call 64; refine (HJ.out _ (gtr HG2.out HG3.out)).mono ?_; rintro e w4 ⟨v4, rfl, ho4, hg4⟩; obtain ⟨a4, c4, rfl, hc4, hm4, ha4⟩ := ho4.slice; have HO4 : Hid (OwnZ w4 w3.heap.size (.slice a4 js.length c4) js) := ho4; have HG4 : Hid (w3.grownBy w4 none) := hg4; clear ho4 hg4))
 have HGa : Hid (w.grownBy w4 none) := gtr HG2.out (gtr HG3.out HG4.out)
 have HOa : Hid (OwnN w4 w.heap.size (.slice (some ⟨T2, 0, none⟩) (n + 1) c2) (n + 1) (Lk.pos S)) := HO2.out.grow (gtr HG3.out HG4.out)
 have HOj : Hid (OwnN w4 w2.heap.size (.slice (some ⟨w2.heap.size, 0, none⟩) n n) n (fun _ => 0)) := HO3.out.grow HG4.out
 have hI2 : w.heap.size ≤ w2.heap.size := HG2.out.size
 have hI3 : w2.heap.size < w3.heap.size := (World.ownsRow.lt HO3.out w2.heap.size rfl).2
 have hTl : T2 < w2.heap.size := hl2
 obtain ⟨I, hI⟩ : ∃ I, I = w2.heap.size := ⟨_, rfl⟩
 rw [← hI] at HOj hI2 hI3 hTl ⊢
 clear HO2 HO3 HG2 HG3 HG4 HG1 hl2 c12 hmk HP HJ HC1 hI hs1
 go_loopw [26] (fun i wr => ∃ q : Nat, i = .int .i64 q ∧ q ≤ js.length ∧ OwnN wr I (.slice (some ⟨I, 0, none⟩) n n) n (fun i => if (i : Int) ∈ js.take q then Lk.immS P t S i else 0) ∧ w4.grownBy wr (some I)) (fun i _ => js.length - (intOf i).toNat)
 case atStart => exact ⟨0, rfl, Nat.zero_le _, HOj.out.congr (fun i _ => by simp), gr0⟩
 case round =>
  obtain ⟨q, rfl, hq, hoq, hgq⟩ := hrel
  have HOq : Hid (OwnN wr I (.slice (some ⟨I, 0, none⟩) n n) n (fun i => if (i : Int) ∈ js.take q then Lk.immS P t S i else 0)) := hoq
  have HGq : Hid (w4.grownBy wr (some I)) := hgq
  have HGw : Hid (w.grownBy wr none) := grown_two HGa.out hgq hI2
  have HOb : Hid (OwnN wr w.heap.size (.slice (some ⟨T2, 0, none⟩) (n + 1) c2) (n + 1) (Lk.pos S)) := HOa.out.kept hgq (.inr (by simp [Value.ownBlock]; omega))
  have HOc : Hid (OwnZ wr w3.heap.size (.slice a4 js.length c4) js) := HO4.out.kept hgq (by
   cases hb : (Value.slice a4 js.length c4).ownBlock with
   | none => exact .inl rfl
   | some b => exact .inr (by have := HO4.out.base b hb; simp; omega))
  clear hoq hgq
  by_cases hqj : q < js.length
  ·have hqj' : (q : Int) < js.length := by omega
   obtain ⟨TJ, rfl, _, _⟩ := ha4 (by omega)
   obtain ⟨i, hi, hx, hj⟩ := HM.out js[q] (List.getElem_mem hqj)
   have cj : wr.cell? ⟨TJ, q, none⟩ = some (.int .i64 (i : Int)) := by
    have := HOc.out.n.cell hqj
    rw [this, List.getD_eq_getElem?_getD, List.getElem?_eq_getElem hqj]
    simp [hx]
   obtain ⟨x, htg, hxn, htc⟩ := HT.out i hi hj
   have HTC : Hid (∀ W, w.grownBy W none → Calls Tryz.prog 65 #[.pointer (some ⟨B, 0, none⟩), .int .i64 i] W fun e w' => e = .returned (.int .i64 x) ∧ W.grownBy w' none) := htc
   have hb1 := HQ.out x hxn
   have hb2 := HQ.out (i + 1) (by omega)
   have HIm : Hid (Lk.immS P t S i = Lk.pos S x - Lk.pos S (i + 1)) := by show _ = _; unfold Lk.immS; rw [htg]
   have hxn' : (x : Int) < (n : Int) + 1 := by omega
   have hi' : (i : Int) < n := by omega
   have hi1 : (i : Int) + 1 < (n : Int) + 1 := by omega
   have HTk : Hid (js.take (q + 1) = js.take q ++ [(i : Int)]) := by show _ = _; rw [List.take_succ_eq_append_getElem hqj, hx]
   clear htg htc hx
   go_wp2_with fail
   refine tail_class (fun w' => ∃ y : Gw wr, w' = y.w) 15 (by kernel_rfl) (by kernel_rfl) ⟨⟨wr.drew, grown_drew gr0⟩, rfl⟩ ?_
   have e1 := fun y : Gw wr => (HOb.out.grow y.h).cell (i := x) (by omega)
   have e2 := fun y : Gw wr => (HOb.out.grow y.h).cell (i := i + 1) (by omega)
   have HTD : Hid (∀ y : Gw wr, Calls Tryz.prog 65 #[.pointer (some ⟨B, 0, none⟩), .int .i64 i] y.w fun e w' => e = .returned (.int .i64 x) ∧ y.w.grownBy w' none) := fun y => HTC.out _ (gtr HGw.out y.h)
   simp only [List.take_succ_cons, List.take_zero, List.drop_succ_cons, List.drop_zero]
   repeat (go_big_quiet_step (first | exact rfl | (go_at_call 65; exact Gw.call (HTD.out _))))
   refine wpQuiet_nil ?_
   rintro W8 ⟨y8, hy8⟩
   have g : wr.grownBy W8 none := by rw [hy8]; exact y8.h
   clear hy8 y8 e1 e2 HTD
   have f8 := (HOq.out.grow g).frozen i
   have c8 := (HOq.out.grow g).cell hi
   have HO9 : Hid (OwnN (W8.setCell ⟨I, i, none⟩ (.int .i64 (Lk.pos S x - Lk.pos S (i + 1)))) I (.slice (some ⟨I, 0, none⟩) n n) n (fun i => if (i : Int) ∈ js.take (q + 1) then Lk.immS P t S i else 0)) := ((HOq.out.grow g).set hi _).congr (fun k hk => by
    unfold setF
    rw [HTk.out]
    by_cases e : k = i
    ·subst e
     rw [← HIm.out]
     simp
    ·simp [e]
     by_cases hm : (k : Int) ∈ js.take q
     ·simp [hm]
     ·simp [hm]
      intro h
      omega)
   have HG9 : Hid (w4.grownBy (W8.setCell ⟨I, i, none⟩ (.int .i64 (Lk.pos S x - Lk.pos S (i + 1)))) (some I)) := gtr (gtr HGq.out (grown_noneR _ g)) (grown_set _ _ _ _)
   clear g
   go_wp2
   go_roundw
   case rel => exact ⟨q + 1, by go_num, by omega, HO9.out, HG9.out⟩
   case measure => simp [intOf]; omega
  ·obtain rfl : q = js.length := by omega
   go_wp2
   go_ret
   refine ⟨_, rfl, (HOq.out.congr (fun i hi => ?_)).low hI2, HGw.out⟩
   rw [List.take_length]
   unfold Lk.immJ
   cases hj : Lk.jmpB (P.I i).op
   ·rw [if_neg]
    ·simp
    ·intro hm
     obtain ⟨i', _, e, hj'⟩ := HM.out _ hm
     obtain rfl : i = i' := by omega
     rw [hj] at hj'
     cases hj'
   ·rw [if_pos (HM2.out i hi hj)]
    simp
namespace Lk
def farL (J : Nat → Int) (l : List Int) : List Int := l.filter fun x => !fitB (J x.toNat)
theorem farL_snoc (J : Nat → Int) (l : List Int) (i : Nat) : farL J (l ++ [(i : Int)]) = farL J l ++ if fitB (J i) then [] else [(i : Int)] := by
 unfold farL
 rw [List.filter_append]
 cases h : fitB (J i) <;> simp [h]
theorem farL_len (J : Nat → Int) (l : List Int) : (farL J l).length ≤ l.length := List.length_filter_le _ _
end Lk
theorem pfar_any {N : Nat} {w : World} {B fe : Nat} {P : Lk.PcV} {ia ma : Option Addr} {ic mc : Nat} {sv : Value} {base T : Nat} {J : Nat → Int} (h : Pt N w B fe P ia ma ic mc sv) (ho : OwnN w base (.slice (some ⟨T, 0, none⟩) P.n P.n) P.n J) (hn : P.n ≤ 1100000) :
  Calls Tryz.prog 42 #[.pointer (some ⟨B, 0, none⟩), .slice (some ⟨T, 0, none⟩) P.n P.n] w fun e w' => ∃ v, e = .returned v ∧ OwnZ w' w.heap.size v (Lk.farL J (Lk.jl P P.n)) ∧ w.grownBy w' none := by
 have HJ : Hid (∀ W, w.grownBy W none → Calls Tryz.prog 64 #[.pointer (some ⟨B, 0, none⟩)] W fun e w' => ∃ v, e = .returned v ∧ OwnZ w' W.heap.size v (Lk.jl P P.n) ∧ W.grownBy w' none) := fun W hW => pjumps_any (h.grow hW) hn
 have HM : Hid (∀ x, x ∈ Lk.jl P P.n → ∃ i : Nat, i < P.n ∧ x = i ∧ Lk.jmpB (P.I i).op = true) := fun x hx => (Lk.jl_mem P).1 hx
 have hjl := Lk.jl_len P P.n
 have HO : Hid (OwnN w base (.slice (some ⟨T, 0, none⟩) P.n P.n) P.n J) := ho
 clear h ho
 generalize Lk.jl P P.n = js at *
 generalize P.n = n at *
 have hn' : (n : Int) ≤ 1100000 := by omega
 go_enter Tryz.func42, Tryz.ntmps42
 go_wp2_with (go_at_call 64; refine (HJ.out _ gr0).mono ?_; rintro e w4 ⟨v4, rfl, ho4, hg4⟩; obtain ⟨a4, c4, rfl, hc4, hm4, ha4⟩ := ho4.slice; have HO4 : Hid (OwnZ w4 w.heap.size (.slice a4 js.length c4) js) := ho4; have HG4 : Hid (w.grownBy w4 none) := hg4; have hs4 := hg4.size; clear ho4 hg4)
 go_loopw [5, 11] (fun v i wr => ∃ q : Nat, i = .int .i64 q ∧ q ≤ js.length ∧ OwnZ wr w4.heap.size v (Lk.farL J (js.take q)) ∧ w4.grownBy wr none) (fun _ i _ => js.length - (intOf i).toNat)
 case atStart => exact ⟨0, rfl, Nat.zero_le _, World.ownsRow_nil _ _ _ _, gr0⟩
 case round =>
  obtain ⟨al, hal⟩ : ∃ al, al = u5 := ⟨_, rfl⟩
  obtain ⟨q, rfl, hq, hoq, hgq⟩ := hrel
  rw [← hal] at hoq ⊢
  clear hal
  have HOq : Hid (OwnZ wr w4.heap.size al (Lk.farL J (js.take q))) := hoq
  have HGq : Hid (w4.grownBy wr none) := hgq
  have hsq := hgq.size
  have hlq := Lk.farL_len J (js.take q)
  obtain ⟨ao, cp, rfl, _⟩ := hoq.slice
  have HOj : Hid (OwnZ wr w.heap.size (.slice a4 js.length c4) js) := HO4.out.grow hgq
  have HOi : Hid (OwnN wr base (.slice (some ⟨T, 0, none⟩) n n) n J) := HO.out.grow (gtr HG4.out hgq)
  clear hoq hgq
  by_cases hqj : q < js.length
  ·have hqj' : (q : Int) < js.length := by omega
   obtain ⟨TJ, rfl, _, _⟩ := ha4 (by omega)
   obtain ⟨i, hi, hx, hj⟩ := HM.out js[q] (List.getElem_mem hqj)
   have cj : wr.cell? ⟨TJ, q, none⟩ = some (.int .i64 (i : Int)) := by
    have := HOj.out.n.cell hqj
    rw [this, List.getD_eq_getElem?_getD, List.getElem?_eq_getElem hqj]
    simp [hx]
   have ci := HOi.out.cell hi
   have hi' : (i : Int) < n := by omega
   have HTk : Hid (Lk.farL J (js.take (q + 1)) = Lk.farL J (js.take q) ++ if Lk.fitB (J i) then [] else [(i : Int)]) := by show _ = _; rw [List.take_succ_eq_append_getElem hqj, hx, Lk.farL_snoc]
   have htl : (js.take q).length ≤ q := by simp; omega
   clear hx
   generalize Lk.farL J (js.take q) = L at *
   generalize J i = z at *
   cases hf : Lk.fitB z
   ·rw [hf] at HTk
    have HF : Hid (∀ W, Calls Tryz.prog 66 #[.int .i64 z] W fun e w' => e = .returned (.bool false) ∧ w' = W) := fun W => by rw [← hf]; exact fitb_any z W
    go_wp2_with (first | (go_at_call 66; refine (HF.out _).mono ?_; rintro e w5 ⟨rfl, rfl⟩) | (at_builtin; refine wp_appZ rfl _ _ rfl w4.heap.size (.slice ao L.length cp) L (i : Int) rfl HOq.out rfl (by omega) hsq ?_; intro v' w6 ho6 hg6))
    exact ⟨⟨q + 1, by go_num, by omega, ho6.cast (by rw [HTk.out]; simp), own_new (v := .nilFunc) HGq.out hg6 HOq.out.base⟩, by simp [intOf]; omega⟩
   ·rw [hf] at HTk
    have HF : Hid (∀ W, Calls Tryz.prog 66 #[.int .i64 z] W fun e w' => e = .returned (.bool true) ∧ w' = W) := fun W => by rw [← hf]; exact fitb_any z W
    go_wp2_with (first | (go_at_call 66; refine (HF.out _).mono ?_; rintro e w5 ⟨rfl, rfl⟩))
    exact ⟨⟨q + 1, by go_num, by omega, HOq.out.cast (by rw [HTk.out]; simp), HGq.out⟩, by simp [intOf]; omega⟩
  ·obtain rfl : q = js.length := by omega
   go_wp2
   go_ret
   exact ⟨_, rfl, (HOq.out.low hs4).cast (by rw [List.take_length]), gtr HG4.out HGq.out⟩
end Go.Proofs.YtkiockffejlnhaaGreatDoor
