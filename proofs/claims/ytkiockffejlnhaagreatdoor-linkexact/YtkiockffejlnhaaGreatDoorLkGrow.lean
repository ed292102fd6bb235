/- link's grow: sizes grow until all fit; they are the least. -/
import Derived.Test.YtkiockffejlnhaaGreatDoorG15
import Derived.WalkMore
namespace Go.Proofs.YtkiockffejlnhaaGreatDoor
set_option maxRecDepth 100000
set_option maxHeartbeats 32000000
open Go.RowKit
set_option linter.unusedVariables false
def rdJ (w : World) (T : Nat) (i : Nat) : Int := intOf ((w.cell? ⟨T, i, none⟩).getD undef)
theorem OwnN.rd {w : World} {base n c T : Nat} {g : Nat → Int} (h : OwnN w base (.slice (some ⟨T, 0, none⟩) n c) n g) : ∀ i, i < n → rdJ w T i = g i := fun i hi => by
 unfold rdJ
 rw [h.cell hi]
 rfl
theorem OwnN.cnt {w : World} {base n c T : Nat} {g : Nat → Int} (h : OwnN w base (.slice (some ⟨T, 0, none⟩) n c) n g) : Lk.cnt (rdJ w T) n = Lk.cnt g n := Lk.cnt_congr (fun i hi => by rw [h.rd i hi])
theorem pgrow_r {N : Nat} {w : World} {B : Nat} {P : Lk.PcV} {ia ma : Option Addr} {ic mc T : Nat} {p : Int} (h : Pt N w B 60 P ia ma ic mc (.slice (some ⟨T, 0, none⟩) P.n P.n)) (hTab : TabAt w) (hTN : 2 < N)
  (ho : OwnN w N (.slice (some ⟨T, 0, none⟩) P.n P.n) P.n (P.sh 1).s) (hBT : B ≠ T) (hP : P.Ok 1 p) (hn : P.n ≤ 1100000) (hS : ∀ i, i < P.n → 0 ≤ (P.sh 1).s i ∧ (P.sh 1).s i ≤ 40) :
  Calls Tryz.prog 22 #[.pointer (some ⟨B, 0, none⟩)] w fun e w' => e = .returned (.tuple #[]) ∧ ∃ L, (P.sh 1).Least L ∧ OwnN w' N (.slice (some ⟨T, 0, none⟩) P.n P.n) P.n ((P.sh 1).size L) ∧ Ch w w' [T] := by
 have hNw : N ≤ w.heap.size := by have := h.nb; have := h.lt; omega
 have hTw : T < w.heap.size := ho.lt T rfl
 have hBw : B < w.heap.size := h.lt
 have hT1 : N ≤ T := ho.base T rfl
 have e0 : (P.sh 1).size (fun _ => false) = (P.sh 1).s := by funext i; unfold Lk.Sh.size; simp
 have HI : Hid (∀ W, w.grownBy W none → Calls Tryz.prog 41 #[.pointer (some ⟨B, 0, none⟩)] W fun e w' => ∃ T, e = .returned (.slice (some ⟨T, 0, none⟩) P.n P.n) ∧ OwnN w' W.heap.size (.slice (some ⟨T, 0, none⟩) P.n P.n) P.n (Lk.immJ P 1 (P.sh 1).s) ∧ W.grownBy w' none) := fun W hW => pimms_any (h.grow hW) (ho.grow hW) hP hn hS
 have HF : Hid (∀ W TJ base, w.grownBy W none → OwnN W base (.slice (some ⟨TJ, 0, none⟩) P.n P.n) P.n (Lk.immJ P 1 (P.sh 1).s) → Calls Tryz.prog 42 #[.pointer (some ⟨B, 0, none⟩), .slice (some ⟨TJ, 0, none⟩) P.n P.n] W fun e w' => ∃ v, e = .returned v ∧ OwnZ w' W.heap.size v (Lk.farL (Lk.immJ P 1 (P.sh 1).s) (Lk.jl P P.n)) ∧ W.grownBy w' none) := fun W TJ base hW hJ => pfar_any (h.grow hW) hJ hn
 have HS0 : Hid (Lk.Wl (P.sh 1) (fun _ => false) (Lk.immJ P 1 (P.sh 1).s) (Lk.farL (Lk.immJ P 1 (P.sh 1).s) (Lk.jl P P.n)) [] (Lk.immJ P 1 (P.sh 1).s)) := Lk.Wl.start hP
 have HO : Hid (OwnN w N (.slice (some ⟨T, 0, none⟩) P.n P.n) P.n ((P.sh 1).size (fun _ => false))) := by rw [e0]; exact ho
 have hlj : (Lk.farL (Lk.immJ P 1 (P.sh 1).s) (Lk.jl P P.n)).length ≤ P.n := Nat.le_trans (Lk.farL_len _ _) (Lk.jl_len P P.n)
 have HLn : Hid (∀ W TJ L J Q m, Ch w W [T, TJ] → w.heap.size ≤ TJ → OwnN W N (.slice (some ⟨T, 0, none⟩) P.n P.n) P.n ((P.sh 1).size L) → OwnN W N (.slice (some ⟨TJ, 0, none⟩) P.n P.n) P.n J → Lk.St (P.sh 1) L J Q → m < P.n → Lk.jmpB (P.I m).op = true → Lk.fitB (J m) = false →
   Calls Tryz.prog 43 #[.pointer (some ⟨B, 0, none⟩), .int .i64 m, .slice (some ⟨TJ, 0, none⟩) P.n P.n] W fun e w' => ∃ v, e = .returned v ∧ OwnZ w' W.heap.size v (Lk.nl J (Lk.bump (P.sh 1) L J m) (m - 128) (min P.n (m + 129))) ∧
   OwnN w' N (.slice (some ⟨T, 0, none⟩) P.n P.n) P.n ((P.sh 1).size (Lk.with1 L m)) ∧ OwnN w' N (.slice (some ⟨TJ, 0, none⟩) P.n P.n) P.n (Lk.bump (P.sh 1) L J m) ∧ Ch W w' [T, TJ]) := fun W TJ L J Q m hC hTJ hoT hoJ st hm hj hf => by
  have hl : ∀ k, k ∈ [T, TJ] → N ≤ k := by intro k hk; simp at hk; omega
  exact plong_r (h.ch hC hl (by simp; omega)) (hTab.ch hC (by intro hm; have := hl _ hm; omega)) (Nat.le_trans hNw hC.size) hTN hoT hoJ (by omega) (by omega) (by omega) hP hn st hm hj hf
 have HSt : Hid (∀ L J R Z J0 (m : Nat), Lk.Wl (P.sh 1) L J ((m : Int) :: R) Z J0 → Lk.Wl (P.sh 1) (Lk.with1 L m) (Lk.bump (P.sh 1) L J m) R (Z ++ Lk.nl J (Lk.bump (P.sh 1) L J m) (m - 128) (min P.n (m + 129))) J0) := fun L J R Z J0 m hw => hw.step hP.sh
 have HFa : Hid (∀ J x, Lk.FarAt (P.sh 1) J x → ∃ i : Nat, i < P.n ∧ x = i ∧ Lk.jmpB (P.I i).op = true ∧ Lk.fitB (J i) = false) := fun J x hx => hx
 have HCt : Hid (∀ L J R Z J0, Lk.Wl (P.sh 1) L J R Z J0 → Lk.cnt J P.n + Z.length = Lk.cnt J0 P.n ∧ Z.length ≤ P.n) := fun L J R Z J0 hw => ⟨hw.ct, show Z.length ≤ (P.sh 1).n from by have := hw.ct; have := Lk.cnt_le J0 (P.sh 1).n; omega⟩
 clear h hTab ho hP hS e0
 obtain ⟨H, hH⟩ : ∃ H, H = P.sh 1 := ⟨_, rfl⟩
 rw [← hH] at HI HF HS0 HO hlj HLn HSt HFa HCt ⊢
 clear hH
 obtain ⟨J1, hJ1⟩ : ∃ J1, J1 = Lk.immJ P 1 H.s := ⟨_, rfl⟩
 rw [← hJ1] at HI HF HS0 hlj
 clear hJ1
 obtain ⟨X1, hX1⟩ : ∃ X1, X1 = Lk.farL J1 (Lk.jl P P.n) := ⟨_, rfl⟩
 rw [← hX1] at HF HS0 hlj
 clear hX1
 obtain ⟨n, hnn⟩ : ∃ n, n = P.n := ⟨_, rfl⟩
 rw [← hnn] at HI HF HO HLn HSt HFa HCt hlj hn ⊢
 clear hnn
 have hn' : (n : Int) ≤ 1100000 := by omega
 go_enter Tryz.func22, Tryz.ntmps22
 go_step3
 go_wp2_with (first
  | (go_at_call 41; refine (HI.out _ gr0).mono ?_; rintro e w1 ⟨TJ, rfl, ho1, hg1⟩; have HO1 : Hid (OwnN w1 w.heap.size (.slice (some ⟨TJ, 0, none⟩) n n) n J1) := ho1; have HG1 : Hid (w.grownBy w1 none) := hg1; clear ho1 hg1)
  | (go_at_call 42; refine (HF.out _ TJ w.heap.size HG1.out HO1.out).mono ?_; rintro e w2 ⟨v2, rfl, ho2, hg2⟩; have HO2 : Hid (OwnZ w2 w1.heap.size v2 X1) := ho2; have HG2 : Hid (w1.grownBy w2 none) := hg2; clear ho2 hg2))
 go_step3
 go_wp2_with fail
 have hTJ : w.heap.size ≤ TJ := HO1.out.base TJ rfl
 have hTJ1 : TJ < w1.heap.size := HO1.out.lt TJ rfl
 have hw1 : w.heap.size ≤ w1.heap.size := HG1.out.size
 have HOT2 : Hid (OwnN w2 N (.slice (some ⟨T, 0, none⟩) n n) n (H.size (fun _ => false))) := HO.out.grow (gtr HG1.out HG2.out)
 have HOJ2 : Hid (OwnN w2 N (.slice (some ⟨TJ, 0, none⟩) n n) n J1) := (HO1.out.grow HG2.out).low hNw
 have HC2 : Hid (Ch w w2 [T, TJ]) := Ch.of (gtr HG1.out HG2.out)
 obtain ⟨b0, hb0⟩ : ∃ b0, b0 = w1.heap.size := ⟨_, rfl⟩
 have hs2 : b0 ≤ w2.heap.size := by rw [hb0]; exact HG2.out.size
 rw [← hb0] at HO2 hTJ1 hw1
 clear HO HO1 HG1 HG2 HI HF hb0
 go_loopw [3] (fun v wr => ∃ L J X, OwnZ wr b0 v X ∧ OwnN wr N (.slice (some ⟨T, 0, none⟩) n n) n (H.size L) ∧ OwnN wr N (.slice (some ⟨TJ, 0, none⟩) n n) n J ∧ Lk.Wl H L J X [] J ∧ X.length ≤ n ∧ Ch w wr [T, TJ] ∧ b0 ≤ wr.heap.size) (fun _ wr => Lk.cnt (rdJ wr TJ) n)
 case atStart => exact ⟨_, _, X1, HO2.out, HOT2.out, HOJ2.out, HS0.out, hlj, HC2.out, hs2⟩
 case round =>
  obtain ⟨al, hal⟩ : ∃ al, al = u3 := ⟨_, rfl⟩
  obtain ⟨L0, J0, X, hoX, hoT, hoJ, hwl, hlX, hch, hsz⟩ := hrel
  rw [← hal] at hoX ⊢
  clear hal
  obtain ⟨wo, rfl⟩ : ∃ wo, wo = wr := ⟨wr, rfl⟩
  obtain ⟨ax, cx, rfl, _, _, hax⟩ := hoX.slice
  have HOX : Hid (OwnZ wo b0 (.slice ax X.length cx) X) := hoX
  have HOT : Hid (OwnN wo N (.slice (some ⟨T, 0, none⟩) n n) n (H.size L0)) := hoT
  have HOJ : Hid (OwnN wo N (.slice (some ⟨TJ, 0, none⟩) n n) n J0) := hoJ
  have HWL : Hid (Lk.Wl H L0 J0 X [] J0) := hwl
  have HCH : Hid (Ch w wo [T, TJ]) := hch
  have HMs : Hid (Lk.cnt (rdJ wo TJ) n = Lk.cnt J0 n) := hoJ.cnt
  have HAX : Hid (0 < X.length → ∃ T, ax = some ⟨T, 0, none⟩ ∧ b0 ≤ T ∧ T < wo.heap.size) := hax
  clear hoX hoT hoJ hwl hch hax
  go_wp2_with fail
  go_loopw [4, 14] (fun nx i wr => ∃ (q : Nat) (L : Nat → Bool) (J : Nat → Int) (Z : List Int), i = .int .i64 q ∧ q ≤ X.length ∧ OwnZ wr wo.heap.size nx Z ∧ OwnZ wr b0 (.slice ax X.length cx) X ∧ OwnN wr N (.slice (some ⟨T, 0, none⟩) n n) n (H.size L) ∧ OwnN wr N (.slice (some ⟨TJ, 0, none⟩) n n) n J ∧ Lk.Wl H L J (X.drop q) Z J0 ∧ Ch w wr [T, TJ] ∧ wo.heap.size ≤ wr.heap.size) (fun _ i _ => X.length - (intOf i).toNat)
  case atStart => exact ⟨0, L0, J0, [], rfl, Nat.zero_le _, World.ownsRow_nil _ _ _ _, HOX.out, HOT.out, HOJ.out, HWL.out, HCH.out, Nat.le_refl _⟩
  case round =>
   obtain ⟨nv, hnv⟩ : ∃ nv, nv = u4 := ⟨_, rfl⟩
   obtain ⟨q, L, J, Z, rfl, hq, hoZ, hoX, hoT, hoJ, hwl, hch, hsr⟩ := hrel
   rw [← hnv] at hoZ ⊢
   clear hnv
   obtain ⟨az, cz, rfl, _⟩ := hoZ.slice
   have HZ : Hid (OwnZ wr wo.heap.size (.slice az Z.length cz) Z) := hoZ
   have HX : Hid (OwnZ wr b0 (.slice ax X.length cx) X) := hoX
   have HT : Hid (OwnN wr N (.slice (some ⟨T, 0, none⟩) n n) n (H.size L)) := hoT
   have HJ : Hid (OwnN wr N (.slice (some ⟨TJ, 0, none⟩) n n) n J) := hoJ
   have HW : Hid (Lk.Wl H L J (X.drop q) Z J0) := hwl
   have HC : Hid (Ch w wr [T, TJ]) := hch
   have hct := HCt.out L J _ Z J0 hwl
   have HXb : Hid (∀ b, (Value.slice ax X.length cx).ownBlock = some b → b < wo.heap.size ∧ b ≠ T ∧ b ≠ TJ) := fun b hb => by
    have h1 := HOX.out.lt b hb
    have h2 := HOX.out.base b hb
    omega
   have HZb : Hid (∀ b, (Value.slice az Z.length cz).ownBlock = some b → wo.heap.size ≤ b) := HZ.out.base
   have hTo : T < wo.heap.size := by have := HCH.out.size; omega
   have hTJo : TJ < wo.heap.size := by omega
   clear hoZ hoX hoT hoJ hch
   by_cases hqX : q < X.length
   ·have hqX' : (q : Int) < X.length := by omega
    obtain ⟨TX, rfl, hTX1, hTX2⟩ := HAX.out (by omega)
    obtain ⟨m, hm, hxm, hmj, hmf⟩ := HFa.out J X[q] (hwl.fr _ (by rw [List.drop_eq_getElem_cons hqX]; exact List.mem_cons_self))
    have cq : wr.cell? ⟨TX, q, none⟩ = some (.int .i64 (m : Int)) := by
     rw [HX.out.n.cell hqX, List.getD_eq_getElem?_getD, List.getElem?_eq_getElem hqX]
     simp [hxm]
    have hwl2 : Lk.Wl H L J ((m : Int) :: X.drop (q + 1)) Z J0 := by
     have := hwl
     rw [List.drop_eq_getElem_cons hqX, hxm] at this
     exact this
    have HN := HSt.out L J _ Z J0 m hwl2
    have HLm : Hid (Calls Tryz.prog 43 #[.pointer (some ⟨B, 0, none⟩), .int .i64 m, .slice (some ⟨TJ, 0, none⟩) n n] wr fun e w' => ∃ v, e = .returned v ∧ OwnZ w' wr.heap.size v (Lk.nl J (Lk.bump H L J m) (m - 128) (min n (m + 129))) ∧ OwnN w' N (.slice (some ⟨T, 0, none⟩) n n) n (H.size (Lk.with1 L m)) ∧ OwnN w' N (.slice (some ⟨TJ, 0, none⟩) n n) n (Lk.bump H L J m) ∧ Ch wr w' [T, TJ]) := HLn.out wr TJ L J _ m HC.out hTJ HT.out HJ.out hwl.st hm hmj hmf
    have hYl := Lk.nl_len J (Lk.bump H L J m) (m - 128) (min n (m + 129))
    have hYn : (Lk.nl J (Lk.bump H L J m) (m - 128) (min n (m + 129))).length ≤ 2000000 := by have := Nat.min_le_left n (m + 129); omega
    obtain ⟨Y, hY⟩ : ∃ Y, Y = Lk.nl J (Lk.bump H L J m) (m - 128) (min n (m + 129)) := ⟨_, rfl⟩
    rw [← hY] at HN HLm hYn
    obtain ⟨L', hL'⟩ : ∃ L', L' = Lk.with1 L m := ⟨_, rfl⟩
    rw [← hL'] at HN HLm
    obtain ⟨J', hJ'⟩ : ∃ J', J' = Lk.bump H L J m := ⟨_, rfl⟩
    rw [← hJ'] at HN HLm
    have HN2 : Hid (Lk.Wl H L' J' (X.drop (q + 1)) (Z ++ Y) J0) := HN
    clear hY hL' hJ' hYl HN hwl hwl2 hmf hmj hxm
    have hZn : Z.length ≤ 2000000 := by omega
    go_wp2_with (first
     | (go_at_call 43; refine HLm.out.mono ?_; rintro e w5 ⟨v5, rfl, ho5, hoT5, hoJ5, hc5⟩; have HZ5 : Hid (OwnZ w5 wo.heap.size (.slice az Z.length cz) Z) := HZ.out.ch hc5 (fun b hb => by have := HZb.out b hb; simp; omega); have HX5 : Hid (OwnZ w5 b0 (.slice (some ⟨TX, 0, none⟩) X.length cx) X) := HX.out.ch hc5 (fun b hb => by have := HXb.out b hb; simp; omega); have HT5 : Hid (OwnN w5 N (.slice (some ⟨T, 0, none⟩) n n) n (H.size L')) := hoT5; have HJ5 : Hid (OwnN w5 N (.slice (some ⟨TJ, 0, none⟩) n n) n J') := hoJ5; have HC5 : Hid (Ch w w5 [T, TJ]) := HC.out.trans hc5; have hs5 : wo.heap.size ≤ w5.heap.size := Nat.le_trans hsr hc5.size; have HV5 : Hid (OwnZ w5 wr.heap.size v5 Y) := ho5; clear hoT5 hoJ5 hc5 ho5)
     | (at_builtin; refine wp_appZs rfl _ _ rfl wo.heap.size (.slice az Z.length cz) v5 Z Y wr.heap.size rfl HZ5.out rfl HV5.out hZn hYn hs5 ?_; intro v6 w6 ho6 hg6))
    have hk6 : ∀ T0 a c, T0 < wo.heap.size → (Value.slice (some ⟨T0, 0, none⟩) a c).ownBlock = none ∨ (Value.slice (some ⟨T0, 0, none⟩) a c).ownBlock ≠ (Value.slice az Z.length cz).ownBlock := fun T0 a c h0 => .inr (by
     show some T0 ≠ _
     intro e
     have := HZb.out T0 e.symm
     omega)
    exact ⟨⟨q + 1, L', J', Z ++ Y, by go_num, by omega, ho6, HX5.out.kept hg6 (hk6 TX _ _ hTX2), HT5.out.kept hg6 (hk6 T _ _ hTo), HJ5.out.kept hg6 (hk6 TJ _ _ hTJo), HN2.out, chApp HC5.out hg6 (fun b hb => Nat.le_trans HCH.out.size (HZb.out b hb)), Nat.le_trans hs5 hg6.size⟩, by simp [intOf]; omega⟩
   ·obtain rfl : q = X.length := by omega
    rw [List.drop_length] at hwl
    clear HW
    by_cases hZ0 : Z = []
    ·subst hZ0
     have HLe : Hid (H.Least L) := hwl.done
     clear hwl
     go_wp2
     rw [Exit.noGoto_normal]
     go_end0
     exact ⟨rfl, L, HLe.out, HT.out, HC.out.mono (fun k hk hm => by simp at hm ⊢; omega)⟩
    ·have HWt : Hid (Lk.Wl H L J Z [] J) := hwl.turn
     have hlen2 : Z.length ≠ 0 := fun h => hZ0 (List.length_eq_zero_iff.1 h)
     have hlen : (Z.length == 0) = false := by simpa using hlen2
     clear hZ0 hwl
     go_wp2
     go_roundw
     case rel => exact ⟨L, J, Z, HZ.out.low hsz, HT.out, HJ.out, HWt.out, hct.2, HC.out, Nat.le_trans hsz hsr⟩
     case measure =>
      rw [HMs.out, HJ.out.cnt]
      omega
theorem pgrow_c {N : Nat} {w : World} {B : Nat} {P : Lk.PcV} {ia ma : Option Addr} {ic mc T : Nat} {p : Int} (h : Pt N w B 61 P ia ma ic mc (.slice (some ⟨T, 0, none⟩) P.n P.n)) (hTab : TabAt w) (hTN : 2 < N)
  (ho : OwnN w N (.slice (some ⟨T, 0, none⟩) P.n P.n) P.n (P.sh 2).s) (hBT : B ≠ T) (hP : P.Ok 2 p) (hn : P.n ≤ 1100000) (hS : ∀ i, i < P.n → 0 ≤ (P.sh 2).s i ∧ (P.sh 2).s i ≤ 40) :
  Calls Tryz.prog 22 #[.pointer (some ⟨B, 0, none⟩)] w fun e w' => e = .returned (.tuple #[]) ∧ ∃ L, (P.sh 2).Least L ∧ OwnN w' N (.slice (some ⟨T, 0, none⟩) P.n P.n) P.n ((P.sh 2).size L) ∧ Ch w w' [T] := by
 have hNw : N ≤ w.heap.size := by have := h.nb; have := h.lt; omega
 have hTw : T < w.heap.size := ho.lt T rfl
 have hBw : B < w.heap.size := h.lt
 have hT1 : N ≤ T := ho.base T rfl
 have e0 : (P.sh 2).size (fun _ => false) = (P.sh 2).s := by funext i; unfold Lk.Sh.size; simp
 have HI : Hid (∀ W, w.grownBy W none → Calls Tryz.prog 41 #[.pointer (some ⟨B, 0, none⟩)] W fun e w' => ∃ T, e = .returned (.slice (some ⟨T, 0, none⟩) P.n P.n) ∧ OwnN w' W.heap.size (.slice (some ⟨T, 0, none⟩) P.n P.n) P.n (Lk.immJ P 2 (P.sh 2).s) ∧ W.grownBy w' none) := fun W hW => pimms_any (h.grow hW) (ho.grow hW) hP hn hS
 have HF : Hid (∀ W TJ base, w.grownBy W none → OwnN W base (.slice (some ⟨TJ, 0, none⟩) P.n P.n) P.n (Lk.immJ P 2 (P.sh 2).s) → Calls Tryz.prog 42 #[.pointer (some ⟨B, 0, none⟩), .slice (some ⟨TJ, 0, none⟩) P.n P.n] W fun e w' => ∃ v, e = .returned v ∧ OwnZ w' W.heap.size v (Lk.farL (Lk.immJ P 2 (P.sh 2).s) (Lk.jl P P.n)) ∧ W.grownBy w' none) := fun W TJ base hW hJ => pfar_any (h.grow hW) hJ hn
 have HS0 : Hid (Lk.Wl (P.sh 2) (fun _ => false) (Lk.immJ P 2 (P.sh 2).s) (Lk.farL (Lk.immJ P 2 (P.sh 2).s) (Lk.jl P P.n)) [] (Lk.immJ P 2 (P.sh 2).s)) := Lk.Wl.start hP
 have HO : Hid (OwnN w N (.slice (some ⟨T, 0, none⟩) P.n P.n) P.n ((P.sh 2).size (fun _ => false))) := by rw [e0]; exact ho
 have hlj : (Lk.farL (Lk.immJ P 2 (P.sh 2).s) (Lk.jl P P.n)).length ≤ P.n := Nat.le_trans (Lk.farL_len _ _) (Lk.jl_len P P.n)
 have HLn : Hid (∀ W TJ L J Q m, Ch w W [T, TJ] → w.heap.size ≤ TJ → OwnN W N (.slice (some ⟨T, 0, none⟩) P.n P.n) P.n ((P.sh 2).size L) → OwnN W N (.slice (some ⟨TJ, 0, none⟩) P.n P.n) P.n J → Lk.St (P.sh 2) L J Q → m < P.n → Lk.jmpB (P.I m).op = true → Lk.fitB (J m) = false →
   Calls Tryz.prog 43 #[.pointer (some ⟨B, 0, none⟩), .int .i64 m, .slice (some ⟨TJ, 0, none⟩) P.n P.n] W fun e w' => ∃ v, e = .returned v ∧ OwnZ w' W.heap.size v (Lk.nl J (Lk.bump (P.sh 2) L J m) (m - 128) (min P.n (m + 129))) ∧
   OwnN w' N (.slice (some ⟨T, 0, none⟩) P.n P.n) P.n ((P.sh 2).size (Lk.with1 L m)) ∧ OwnN w' N (.slice (some ⟨TJ, 0, none⟩) P.n P.n) P.n (Lk.bump (P.sh 2) L J m) ∧ Ch W w' [T, TJ]) := fun W TJ L J Q m hC hTJ hoT hoJ st hm hj hf => by
  have hl : ∀ k, k ∈ [T, TJ] → N ≤ k := by intro k hk; simp at hk; omega
  exact plong_c (h.ch hC hl (by simp; omega)) (hTab.ch hC (by intro hm; have := hl _ hm; omega)) (Nat.le_trans hNw hC.size) hTN hoT hoJ (by omega) (by omega) (by omega) hP hn st hm hj hf
 have HSt : Hid (∀ L J R Z J0 (m : Nat), Lk.Wl (P.sh 2) L J ((m : Int) :: R) Z J0 → Lk.Wl (P.sh 2) (Lk.with1 L m) (Lk.bump (P.sh 2) L J m) R (Z ++ Lk.nl J (Lk.bump (P.sh 2) L J m) (m - 128) (min P.n (m + 129))) J0) := fun L J R Z J0 m hw => hw.step hP.sh
 have HFa : Hid (∀ J x, Lk.FarAt (P.sh 2) J x → ∃ i : Nat, i < P.n ∧ x = i ∧ Lk.jmpB (P.I i).op = true ∧ Lk.fitB (J i) = false) := fun J x hx => hx
 have HCt : Hid (∀ L J R Z J0, Lk.Wl (P.sh 2) L J R Z J0 → Lk.cnt J P.n + Z.length = Lk.cnt J0 P.n ∧ Z.length ≤ P.n) := fun L J R Z J0 hw => ⟨hw.ct, show Z.length ≤ (P.sh 2).n from by have := hw.ct; have := Lk.cnt_le J0 (P.sh 2).n; omega⟩
 clear h hTab ho hP hS e0
 obtain ⟨H, hH⟩ : ∃ H, H = P.sh 2 := ⟨_, rfl⟩
 rw [← hH] at HI HF HS0 HO hlj HLn HSt HFa HCt ⊢
 clear hH
 obtain ⟨J1, hJ1⟩ : ∃ J1, J1 = Lk.immJ P 2 H.s := ⟨_, rfl⟩
 rw [← hJ1] at HI HF HS0 hlj
 clear hJ1
 obtain ⟨X1, hX1⟩ : ∃ X1, X1 = Lk.farL J1 (Lk.jl P P.n) := ⟨_, rfl⟩
 rw [← hX1] at HF HS0 hlj
 clear hX1
 obtain ⟨n, hnn⟩ : ∃ n, n = P.n := ⟨_, rfl⟩
 rw [← hnn] at HI HF HO HLn HSt HFa HCt hlj hn ⊢
 clear hnn
 have hn' : (n : Int) ≤ 1100000 := by omega
 go_enter Tryz.func22, Tryz.ntmps22
 go_step3
 go_wp2_with (first
  | (go_at_call 41; refine (HI.out _ gr0).mono ?_; rintro e w1 ⟨TJ, rfl, ho1, hg1⟩; have HO1 : Hid (OwnN w1 w.heap.size (.slice (some ⟨TJ, 0, none⟩) n n) n J1) := ho1; have HG1 : Hid (w.grownBy w1 none) := hg1; clear ho1 hg1)
  | (go_at_call 42; refine (HF.out _ TJ w.heap.size HG1.out HO1.out).mono ?_; rintro e w2 ⟨v2, rfl, ho2, hg2⟩; have HO2 : Hid (OwnZ w2 w1.heap.size v2 X1) := ho2; have HG2 : Hid (w1.grownBy w2 none) := hg2; clear ho2 hg2))
 go_step3
 go_wp2_with fail
 have hTJ : w.heap.size ≤ TJ := HO1.out.base TJ rfl
 have hTJ1 : TJ < w1.heap.size := HO1.out.lt TJ rfl
 have hw1 : w.heap.size ≤ w1.heap.size := HG1.out.size
 have HOT2 : Hid (OwnN w2 N (.slice (some ⟨T, 0, none⟩) n n) n (H.size (fun _ => false))) := HO.out.grow (gtr HG1.out HG2.out)
 have HOJ2 : Hid (OwnN w2 N (.slice (some ⟨TJ, 0, none⟩) n n) n J1) := (HO1.out.grow HG2.out).low hNw
 have HC2 : Hid (Ch w w2 [T, TJ]) := Ch.of (gtr HG1.out HG2.out)
 obtain ⟨b0, hb0⟩ : ∃ b0, b0 = w1.heap.size := ⟨_, rfl⟩
 have hs2 : b0 ≤ w2.heap.size := by rw [hb0]; exact HG2.out.size
 rw [← hb0] at HO2 hTJ1 hw1
 clear HO HO1 HG1 HG2 HI HF hb0
 go_loopw [3] (fun v wr => ∃ L J X, OwnZ wr b0 v X ∧ OwnN wr N (.slice (some ⟨T, 0, none⟩) n n) n (H.size L) ∧ OwnN wr N (.slice (some ⟨TJ, 0, none⟩) n n) n J ∧ Lk.Wl H L J X [] J ∧ X.length ≤ n ∧ Ch w wr [T, TJ] ∧ b0 ≤ wr.heap.size) (fun _ wr => Lk.cnt (rdJ wr TJ) n)
 case atStart => exact ⟨_, _, X1, HO2.out, HOT2.out, HOJ2.out, HS0.out, hlj, HC2.out, hs2⟩
 case round =>
  obtain ⟨al, hal⟩ : ∃ al, al = u3 := ⟨_, rfl⟩
  obtain ⟨L0, J0, X, hoX, hoT, hoJ, hwl, hlX, hch, hsz⟩ := hrel
  rw [← hal] at hoX ⊢
  clear hal
  obtain ⟨wo, rfl⟩ : ∃ wo, wo = wr := ⟨wr, rfl⟩
  obtain ⟨ax, cx, rfl, _, _, hax⟩ := hoX.slice
  have HOX : Hid (OwnZ wo b0 (.slice ax X.length cx) X) := hoX
  have HOT : Hid (OwnN wo N (.slice (some ⟨T, 0, none⟩) n n) n (H.size L0)) := hoT
  have HOJ : Hid (OwnN wo N (.slice (some ⟨TJ, 0, none⟩) n n) n J0) := hoJ
  have HWL : Hid (Lk.Wl H L0 J0 X [] J0) := hwl
  have HCH : Hid (Ch w wo [T, TJ]) := hch
  have HMs : Hid (Lk.cnt (rdJ wo TJ) n = Lk.cnt J0 n) := hoJ.cnt
  have HAX : Hid (0 < X.length → ∃ T, ax = some ⟨T, 0, none⟩ ∧ b0 ≤ T ∧ T < wo.heap.size) := hax
  clear hoX hoT hoJ hwl hch hax
  go_wp2_with fail
  go_loopw [4, 14] (fun nx i wr => ∃ (q : Nat) (L : Nat → Bool) (J : Nat → Int) (Z : List Int), i = .int .i64 q ∧ q ≤ X.length ∧ OwnZ wr wo.heap.size nx Z ∧ OwnZ wr b0 (.slice ax X.length cx) X ∧ OwnN wr N (.slice (some ⟨T, 0, none⟩) n n) n (H.size L) ∧ OwnN wr N (.slice (some ⟨TJ, 0, none⟩) n n) n J ∧ Lk.Wl H L J (X.drop q) Z J0 ∧ Ch w wr [T, TJ] ∧ wo.heap.size ≤ wr.heap.size) (fun _ i _ => X.length - (intOf i).toNat)
  case atStart => exact ⟨0, L0, J0, [], rfl, Nat.zero_le _, World.ownsRow_nil _ _ _ _, HOX.out, HOT.out, HOJ.out, HWL.out, HCH.out, Nat.le_refl _⟩
  case round =>
   obtain ⟨nv, hnv⟩ : ∃ nv, nv = u4 := ⟨_, rfl⟩
   obtain ⟨q, L, J, Z, rfl, hq, hoZ, hoX, hoT, hoJ, hwl, hch, hsr⟩ := hrel
   rw [← hnv] at hoZ ⊢
   clear hnv
   obtain ⟨az, cz, rfl, _⟩ := hoZ.slice
   have HZ : Hid (OwnZ wr wo.heap.size (.slice az Z.length cz) Z) := hoZ
   have HX : Hid (OwnZ wr b0 (.slice ax X.length cx) X) := hoX
   have HT : Hid (OwnN wr N (.slice (some ⟨T, 0, none⟩) n n) n (H.size L)) := hoT
   have HJ : Hid (OwnN wr N (.slice (some ⟨TJ, 0, none⟩) n n) n J) := hoJ
   have HW : Hid (Lk.Wl H L J (X.drop q) Z J0) := hwl
   have HC : Hid (Ch w wr [T, TJ]) := hch
   have hct := HCt.out L J _ Z J0 hwl
   have HXb : Hid (∀ b, (Value.slice ax X.length cx).ownBlock = some b → b < wo.heap.size ∧ b ≠ T ∧ b ≠ TJ) := fun b hb => by
    have h1 := HOX.out.lt b hb
    have h2 := HOX.out.base b hb
    omega
   have HZb : Hid (∀ b, (Value.slice az Z.length cz).ownBlock = some b → wo.heap.size ≤ b) := HZ.out.base
   have hTo : T < wo.heap.size := by have := HCH.out.size; omega
   have hTJo : TJ < wo.heap.size := by omega
   clear hoZ hoX hoT hoJ hch
   by_cases hqX : q < X.length
   ·have hqX' : (q : Int) < X.length := by omega
    obtain ⟨TX, rfl, hTX1, hTX2⟩ := HAX.out (by omega)
    obtain ⟨m, hm, hxm, hmj, hmf⟩ := HFa.out J X[q] (hwl.fr _ (by rw [List.drop_eq_getElem_cons hqX]; exact List.mem_cons_self))
    have cq : wr.cell? ⟨TX, q, none⟩ = some (.int .i64 (m : Int)) := by
     rw [HX.out.n.cell hqX, List.getD_eq_getElem?_getD, List.getElem?_eq_getElem hqX]
     simp [hxm]
    have hwl2 : Lk.Wl H L J ((m : Int) :: X.drop (q + 1)) Z J0 := by
     have := hwl
     rw [List.drop_eq_getElem_cons hqX, hxm] at this
     exact this
    have HN := HSt.out L J _ Z J0 m hwl2
    have HLm : Hid (Calls Tryz.prog 43 #[.pointer (some ⟨B, 0, none⟩), .int .i64 m, .slice (some ⟨TJ, 0, none⟩) n n] wr fun e w' => ∃ v, e = .returned v ∧ OwnZ w' wr.heap.size v (Lk.nl J (Lk.bump H L J m) (m - 128) (min n (m + 129))) ∧ OwnN w' N (.slice (some ⟨T, 0, none⟩) n n) n (H.size (Lk.with1 L m)) ∧ OwnN w' N (.slice (some ⟨TJ, 0, none⟩) n n) n (Lk.bump H L J m) ∧ Ch wr w' [T, TJ]) := HLn.out wr TJ L J _ m HC.out hTJ HT.out HJ.out hwl.st hm hmj hmf
    have hYl := Lk.nl_len J (Lk.bump H L J m) (m - 128) (min n (m + 129))
    have hYn : (Lk.nl J (Lk.bump H L J m) (m - 128) (min n (m + 129))).length ≤ 2000000 := by have := Nat.min_le_left n (m + 129); omega
    obtain ⟨Y, hY⟩ : ∃ Y, Y = Lk.nl J (Lk.bump H L J m) (m - 128) (min n (m + 129)) := ⟨_, rfl⟩
    rw [← hY] at HN HLm hYn
    obtain ⟨L', hL'⟩ : ∃ L', L' = Lk.with1 L m := ⟨_, rfl⟩
    rw [← hL'] at HN HLm
    obtain ⟨J', hJ'⟩ : ∃ J', J' = Lk.bump H L J m := ⟨_, rfl⟩
    rw [← hJ'] at HN HLm
    have HN2 : Hid (Lk.Wl H L' J' (X.drop (q + 1)) (Z ++ Y) J0) := HN
    clear hY hL' hJ' hYl HN hwl hwl2 hmf hmj hxm
    have hZn : Z.length ≤ 2000000 := by omega
    go_wp2_with (first
     | (go_at_call 43; refine HLm.out.mono ?_; rintro e w5 ⟨v5, rfl, ho5, hoT5, hoJ5, hc5⟩; have HZ5 : Hid (OwnZ w5 wo.heap.size (.slice az Z.length cz) Z) := HZ.out.ch hc5 (fun b hb => by have := HZb.out b hb; simp; omega); have HX5 : Hid (OwnZ w5 b0 (.slice (some ⟨TX, 0, none⟩) X.length cx) X) := HX.out.ch hc5 (fun b hb => by have := HXb.out b hb; simp; omega); have HT5 : Hid (OwnN w5 N (.slice (some ⟨T, 0, none⟩) n n) n (H.size L')) := hoT5; have HJ5 : Hid (OwnN w5 N (.slice (some ⟨TJ, 0, none⟩) n n) n J') := hoJ5; have HC5 : Hid (Ch w w5 [T, TJ]) := HC.out.trans hc5; have hs5 : wo.heap.size ≤ w5.heap.size := Nat.le_trans hsr hc5.size; have HV5 : Hid (OwnZ w5 wr.heap.size v5 Y) := ho5; clear hoT5 hoJ5 hc5 ho5)
     | (at_builtin; refine wp_appZs rfl _ _ rfl wo.heap.size (.slice az Z.length cz) v5 Z Y wr.heap.size rfl HZ5.out rfl HV5.out hZn hYn hs5 ?_; intro v6 w6 ho6 hg6))
    have hk6 : ∀ T0 a c, T0 < wo.heap.size → (Value.slice (some ⟨T0, 0, none⟩) a c).ownBlock = none ∨ (Value.slice (some ⟨T0, 0, none⟩) a c).ownBlock ≠ (Value.slice az Z.length cz).ownBlock := fun T0 a c h0 => .inr (by
     show some T0 ≠ _
     intro e
     have := HZb.out T0 e.symm
     omega)
    exact ⟨⟨q + 1, L', J', Z ++ Y, by go_num, by omega, ho6, HX5.out.kept hg6 (hk6 TX _ _ hTX2), HT5.out.kept hg6 (hk6 T _ _ hTo), HJ5.out.kept hg6 (hk6 TJ _ _ hTJo), HN2.out, chApp HC5.out hg6 (fun b hb => Nat.le_trans HCH.out.size (HZb.out b hb)), Nat.le_trans hs5 hg6.size⟩, by simp [intOf]; omega⟩
   ·obtain rfl : q = X.length := by omega
    rw [List.drop_length] at hwl
    clear HW
    by_cases hZ0 : Z = []
    ·subst hZ0
     have HLe : Hid (H.Least L) := hwl.done
     clear hwl
     go_wp2
     rw [Exit.noGoto_normal]
     go_end0
     exact ⟨rfl, L, HLe.out, HT.out, HC.out.mono (fun k hk hm => by simp at hm ⊢; omega)⟩
    ·have HWt : Hid (Lk.Wl H L J Z [] J) := hwl.turn
     have hlen2 : Z.length ≠ 0 := fun h => hZ0 (List.length_eq_zero_iff.1 h)
     have hlen : (Z.length == 0) = false := by simpa using hlen2
     clear hZ0 hwl
     go_wp2
     go_roundw
     case rel => exact ⟨L, J, Z, HZ.out.low hsz, HT.out, HJ.out, HWt.out, hct.2, HC.out, Nat.le_trans hsz hsr⟩
     case measure =>
      rw [HMs.out, HJ.out.cnt]
      omega
end Go.Proofs.YtkiockffejlnhaaGreatDoor
