/- Contracts and plain facts that the walks share, text by text: LkGrow, LkMeas, LkTake, LkFin. -/
import Derived.Test.YtkiockffejlnhaaGreatDoorG8
import Derived.Test.YtkiockffejlnhaaGreatDoorG4
import Derived.WalkMore
/- link's grow: sizes grow until all fit; they are the least. -/
namespace Go.Proofs.YtkiockffejlnhaaGreatDoor
open Go.RowKit
set_option linter.unusedVariables false
def rdJ (w : World) (T : Nat) (i : Nat) : Int := intOf ((w.cell? ⟨T, i, none⟩).getD undef)
theorem OwnN.rd {w : World} {base n c T : Nat} {g : Nat → Int} (h : OwnN w base (.slice (some ⟨T, 0, none⟩) n c) n g) : ∀ i, i < n → rdJ w T i = g i := fun i hi => by
  unfold rdJ
  rw [h.cell hi]
  rfl
theorem OwnN.cnt {w : World} {base n c T : Nat} {g : Nat → Int} (h : OwnN w base (.slice (some ⟨T, 0, none⟩) n c) n g) : Lk.cnt (rdJ w T) n = Lk.cnt g n := Lk.cnt_congr (fun i hi => by rw [h.rd i hi])
set_option maxRecDepth 100000 in
set_option maxHeartbeats 16000000 in
theorem pgrow_r {N : Nat} {w : World} {B : Nat} {P : Lk.PcV} {ia ma : Option Addr} {ic mc T : Nat} {p : Int} (h : Pt N w B 60 P ia ma ic mc (.slice (some ⟨T, 0, none⟩) P.n P.n)) (hTab : TabAt w) (hTN : 2 < N)
    (ho : OwnN w N (.slice (some ⟨T, 0, none⟩) P.n P.n) P.n (P.sh 1).s) (hBT : B ≠ T) (hP : P.Ok 1 p) (hn : P.n ≤ 1100000) (hS : ∀ i, i < P.n → 0 ≤ (P.sh 1).s i ∧ (P.sh 1).s i ≤ 40) :
    Calls Tryz.prog 22 #[.pointer (some ⟨B, 0, none⟩)] w fun e w' => e = .returned (.tuple #[]) ∧ ∃ L, (P.sh 1).Least L ∧ OwnN w' N (.slice (some ⟨T, 0, none⟩) P.n P.n) P.n ((P.sh 1).size L) ∧ Ch w w' [T] := by
  have hNw : N ≤ w.heap.size := by have := h.nb; have := h.lt; omega
  have hTw : T < w.heap.size := ho.lt T rfl
  have hBw : B < w.heap.size := h.lt
  have hT1 : N ≤ T := ho.base T rfl
  have e0 : (P.sh 1).size (fun _ => false) = (P.sh 1).s := by funext i; unfold Lk.Sh.size; simp
  have HI : Hid (∀ W, w.grownBy W none → Calls Tryz.prog 41 #[.pointer (some ⟨B, 0, none⟩)] W fun e w' => ∃ T, e = .returned (.slice (some ⟨T, 0, none⟩) P.n P.n) ∧ OwnN w' W.heap.size (.slice (some ⟨T, 0, none⟩) P.n P.n) P.n (Lk.immJ P 1 (P.sh 1).s) ∧ W.grownBy w' none) := fun W hW => pimms_any (h.grow hW) (ho.grow hW) hP hn hS
  have HF : Hid (∀ W TJ base, w.grownBy W none → OwnN W base (.slice (some ⟨TJ, 0, none⟩) P.n P.n) P.n (Lk.immJ P 1 (P.sh 1).s) → Calls Tryz.prog 42 #[.pointer (some ⟨B, 0, none⟩), .slice (some ⟨TJ, 0, none⟩) P.n P.n] W fun e w' => ∃ v, e = .returned v ∧ OwnZ w' W.heap.size v (Lk.farL (Lk.immJ P 1 (P.sh 1).s) (Lk.jl P P.n)) ∧ W.grownBy w' none) := fun W TJ base hW hJ => pfar_any (h.grow hW) hJ hn
  have HS0 : Hid (Lk.Wl (P.sh 1) (fun _ => false) (Lk.immJ P 1 (P.sh 1).s) (Lk.farL (Lk.immJ P 1 (P.sh 1).s) (Lk.jl P P.n)) [] (Lk.immJ P 1 (P.sh 1).s)) := Lk.Wl.start hP
  have HO : Hid (OwnN w N (.slice (some ⟨T, 0, none⟩) P.n P.n) P.n ((P.sh 1).size (fun _ => false))) := by rw [e0]; exact ho
  have hlj : (Lk.farL (Lk.immJ P 1 (P.sh 1).s) (Lk.jl P P.n)).length ≤ P.n := Nat.le_trans (Lk.farL_len _ _) (Lk.jl_len P P.n)
  have HLn : Hid (∀ W TJ L J Q m, Ch w W [T, TJ] → w.heap.size ≤ TJ → OwnN W N (.slice (some ⟨T, 0, none⟩) P.n P.n) P.n ((P.sh 1).size L) → OwnN W N (.slice (some ⟨TJ, 0, none⟩) P.n P.n) P.n J → Lk.St (P.sh 1) L J Q → m < P.n → Lk.jmpB (P.I m).op = true → Lk.fitB (J m) = false →
      Calls Tryz.prog 43 #[.pointer (some ⟨B, 0, none⟩), .int .i64 m, .slice (some ⟨TJ, 0, none⟩) P.n P.n] W fun e w' => ∃ v, e = .returned v ∧ OwnZ w' W.heap.size v (Lk.nl J (Lk.bump (P.sh 1) L J m) (m - 128) (min P.n (m + 129))) ∧
      OwnN w' N (.slice (some ⟨T, 0, none⟩) P.n P.n) P.n ((P.sh 1).size (Lk.with1 L m)) ∧ OwnN w' N (.slice (some ⟨TJ, 0, none⟩) P.n P.n) P.n (Lk.bump (P.sh 1) L J m) ∧ Ch W w' [T, TJ]) := fun W TJ L J Q m hC hTJ hoT hoJ st hm hj hf => by
    have hl : ∀ k, k ∈ [T, TJ] → N ≤ k := by intro k hk; simp at hk; omega
    exact plong_r (h.ch hC hl (by simp; omega)) (hTab.ch hC (by intro hm; have := hl _ hm; omega)) (Nat.le_trans hNw hC.size) hTN hoT hoJ (by omega) (by omega) (by omega) hP hn st hm hj hf
  have HSt : Hid (∀ L J R Z J0 (m : Nat), Lk.Wl (P.sh 1) L J ((m : Int) :: R) Z J0 → Lk.Wl (P.sh 1) (Lk.with1 L m) (Lk.bump (P.sh 1) L J m) R (Z ++ Lk.nl J (Lk.bump (P.sh 1) L J m) (m - 128) (min P.n (m + 129))) J0) := fun L J R Z J0 m hw => hw.step hP.sh
  have HFa : Hid (∀ J x, Lk.FarAt (P.sh 1) J x → ∃ i : Nat, i < P.n ∧ x = i ∧ Lk.jmpB (P.I i).op = true ∧ Lk.fitB (J i) = false) := fun J x hx => hx
  have HCt : Hid (∀ L J R Z J0, Lk.Wl (P.sh 1) L J R Z J0 → Lk.cnt J P.n + Z.length = Lk.cnt J0 P.n ∧ Z.length ≤ P.n) := fun L J R Z J0 hw => ⟨hw.ct, show Z.length ≤ (P.sh 1).n from by have := hw.ct; have := Lk.cnt_le J0 (P.sh 1).n; omega⟩
  clear h hTab ho hP hS e0
  obtain ⟨H, hH⟩ : ∃ H, H = P.sh 1 := ⟨_, rfl⟩
  rw [← hH] at HI HF HS0 HO hlj HLn HSt HFa HCt ⊢
  clear hH
  obtain ⟨J1, hJ1⟩ : ∃ J1, J1 = Lk.immJ P 1 H.s := ⟨_, rfl⟩
  rw [← hJ1] at HI HF HS0 hlj
  clear hJ1
  obtain ⟨X1, hX1⟩ : ∃ X1, X1 = Lk.farL J1 (Lk.jl P P.n) := ⟨_, rfl⟩
  rw [← hX1] at HF HS0 hlj
  clear hX1
  obtain ⟨n, hnn⟩ : ∃ n, n = P.n := ⟨_, rfl⟩
  rw [← hnn] at HI HF HO HLn HSt HFa HCt hlj hn ⊢
  clear hnn
  have hn' : (n : Int) ≤ 1100000 := by omega
  go_enter Tryz.func22, Tryz.ntmps22
  go_step3
  go_wp2_with (first
    | (go_at_call 41; refine (HI.out _ (World.grownBy.refl _ _)).mono ?_; rintro e w1 ⟨TJ, rfl, ho1, hg1⟩; have HO1 : Hid (OwnN w1 w.heap.size (.slice (some ⟨TJ, 0, none⟩) n n) n J1) := ho1; have HG1 : Hid (w.grownBy w1 none) := hg1; clear ho1 hg1)
    | (go_at_call 42; refine (HF.out _ TJ w.heap.size HG1.out HO1.out).mono ?_; rintro e w2 ⟨v2, rfl, ho2, hg2⟩; have HO2 : Hid (OwnZ w2 w1.heap.size v2 X1) := ho2; have HG2 : Hid (w1.grownBy w2 none) := hg2; clear ho2 hg2))
  go_step3
  go_wp2_with fail
  have hTJ : w.heap.size ≤ TJ := HO1.out.base TJ rfl
  have hTJ1 : TJ < w1.heap.size := HO1.out.lt TJ rfl
  have hw1 : w.heap.size ≤ w1.heap.size := HG1.out.size
  have HOT2 : Hid (OwnN w2 N (.slice (some ⟨T, 0, none⟩) n n) n (H.size (fun _ => false))) := HO.out.grow (grown_trans HG1.out HG2.out)
  have HOJ2 : Hid (OwnN w2 N (.slice (some ⟨TJ, 0, none⟩) n n) n J1) := (HO1.out.grow HG2.out).low hNw
  have HC2 : Hid (Ch w w2 [T, TJ]) := Ch.of (grown_trans HG1.out HG2.out)
  obtain ⟨b0, hb0⟩ : ∃ b0, b0 = w1.heap.size := ⟨_, rfl⟩
  have hs2 : b0 ≤ w2.heap.size := by rw [hb0]; exact HG2.out.size
  rw [← hb0] at HO2 hTJ1 hw1
  clear HO HO1 HG1 HG2 HI HF hb0
  go_loopw [3] (fun v wr => ∃ L J X, OwnZ wr b0 v X ∧ OwnN wr N (.slice (some ⟨T, 0, none⟩) n n) n (H.size L) ∧ OwnN wr N (.slice (some ⟨TJ, 0, none⟩) n n) n J ∧ Lk.Wl H L J X [] J ∧ X.length ≤ n ∧ Ch w wr [T, TJ] ∧ b0 ≤ wr.heap.size) (fun _ wr => Lk.cnt (rdJ wr TJ) n)
  case atStart => exact ⟨_, _, X1, HO2.out, HOT2.out, HOJ2.out, HS0.out, hlj, HC2.out, hs2⟩
  case round =>
    obtain ⟨al, hal⟩ : ∃ al, al = u3 := ⟨_, rfl⟩
    obtain ⟨L0, J0, X, hoX, hoT, hoJ, hwl, hlX, hch, hsz⟩ := hrel
    rw [← hal] at hoX ⊢
    clear hal
    obtain ⟨wo, rfl⟩ : ∃ wo, wo = wr := ⟨wr, rfl⟩
    obtain ⟨ax, cx, rfl, _, _, hax⟩ := hoX.slice
    have HOX : Hid (OwnZ wo b0 (.slice ax X.length cx) X) := hoX
    have HOT : Hid (OwnN wo N (.slice (some ⟨T, 0, none⟩) n n) n (H.size L0)) := hoT
    have HOJ : Hid (OwnN wo N (.slice (some ⟨TJ, 0, none⟩) n n) n J0) := hoJ
    have HWL : Hid (Lk.Wl H L0 J0 X [] J0) := hwl
    have HCH : Hid (Ch w wo [T, TJ]) := hch
    have HMs : Hid (Lk.cnt (rdJ wo TJ) n = Lk.cnt J0 n) := hoJ.cnt
    have HAX : Hid (0 < X.length → ∃ T, ax = some ⟨T, 0, none⟩ ∧ b0 ≤ T ∧ T < wo.heap.size) := hax
    clear hoX hoT hoJ hwl hch hax
    go_wp2_with fail
    go_loopw [4, 14] (fun nx i wr => ∃ (q : Nat) (L : Nat → Bool) (J : Nat → Int) (Z : List Int), i = .int .i64 q ∧ q ≤ X.length ∧ OwnZ wr wo.heap.size nx Z ∧ OwnZ wr b0 (.slice ax X.length cx) X ∧ OwnN wr N (.slice (some ⟨T, 0, none⟩) n n) n (H.size L) ∧ OwnN wr N (.slice (some ⟨TJ, 0, none⟩) n n) n J ∧ Lk.Wl H L J (X.drop q) Z J0 ∧ Ch w wr [T, TJ] ∧ wo.heap.size ≤ wr.heap.size) (fun _ i _ => X.length - (intOf i).toNat)
    case atStart => exact ⟨0, L0, J0, [], rfl, Nat.zero_le _, World.ownsRow_nil _ _ _ _, HOX.out, HOT.out, HOJ.out, HWL.out, HCH.out, Nat.le_refl _⟩
    case round =>
      obtain ⟨nv, hnv⟩ : ∃ nv, nv = u4 := ⟨_, rfl⟩
      obtain ⟨q, L, J, Z, rfl, hq, hoZ, hoX, hoT, hoJ, hwl, hch, hsr⟩ := hrel
      rw [← hnv] at hoZ ⊢
      clear hnv
      obtain ⟨az, cz, rfl, _⟩ := hoZ.slice
      have HZ : Hid (OwnZ wr wo.heap.size (.slice az Z.length cz) Z) := hoZ
      have HX : Hid (OwnZ wr b0 (.slice ax X.length cx) X) := hoX
      have HT : Hid (OwnN wr N (.slice (some ⟨T, 0, none⟩) n n) n (H.size L)) := hoT
      have HJ : Hid (OwnN wr N (.slice (some ⟨TJ, 0, none⟩) n n) n J) := hoJ
      have HW : Hid (Lk.Wl H L J (X.drop q) Z J0) := hwl
      have HC : Hid (Ch w wr [T, TJ]) := hch
      have hct := HCt.out L J _ Z J0 hwl
      have HXb : Hid (∀ b, (Value.slice ax X.length cx).ownBlock = some b → b < wo.heap.size ∧ b ≠ T ∧ b ≠ TJ) := fun b hb => by
        have h1 := HOX.out.lt b hb
        have h2 := HOX.out.base b hb
        omega
      have HZb : Hid (∀ b, (Value.slice az Z.length cz).ownBlock = some b → wo.heap.size ≤ b) := HZ.out.base
      have hTo : T < wo.heap.size := by have := HCH.out.size; omega
      have hTJo : TJ < wo.heap.size := by omega
      clear hoZ hoX hoT hoJ hch
      by_cases hqX : q < X.length
      · have hqX' : (q : Int) < X.length := by omega
        obtain ⟨TX, rfl, hTX1, hTX2⟩ := HAX.out (by omega)
        obtain ⟨m, hm, hxm, hmj, hmf⟩ := HFa.out J X[q] (hwl.fr _ (by rw [List.drop_eq_getElem_cons hqX]; exact List.mem_cons_self))
        have cq : wr.cell? ⟨TX, q, none⟩ = some (.int .i64 (m : Int)) := by
          rw [HX.out.n.cell hqX, List.getD_eq_getElem?_getD, List.getElem?_eq_getElem hqX]
          simp [hxm]
        have hwl2 : Lk.Wl H L J ((m : Int) :: X.drop (q + 1)) Z J0 := by
          have := hwl
          rw [List.drop_eq_getElem_cons hqX, hxm] at this
          exact this
        have HN := HSt.out L J _ Z J0 m hwl2
        have HLm : Hid (Calls Tryz.prog 43 #[.pointer (some ⟨B, 0, none⟩), .int .i64 m, .slice (some ⟨TJ, 0, none⟩) n n] wr fun e w' => ∃ v, e = .returned v ∧ OwnZ w' wr.heap.size v (Lk.nl J (Lk.bump H L J m) (m - 128) (min n (m + 129))) ∧ OwnN w' N (.slice (some ⟨T, 0, none⟩) n n) n (H.size (Lk.with1 L m)) ∧ OwnN w' N (.slice (some ⟨TJ, 0, none⟩) n n) n (Lk.bump H L J m) ∧ Ch wr w' [T, TJ]) := HLn.out wr TJ L J _ m HC.out hTJ HT.out HJ.out hwl.st hm hmj hmf
        have hYl := Lk.nl_len J (Lk.bump H L J m) (m - 128) (min n (m + 129))
        have hYn : (Lk.nl J (Lk.bump H L J m) (m - 128) (min n (m + 129))).length ≤ 2000000 := by have := Nat.min_le_left n (m + 129); omega
        obtain ⟨Y, hY⟩ : ∃ Y, Y = Lk.nl J (Lk.bump H L J m) (m - 128) (min n (m + 129)) := ⟨_, rfl⟩
        rw [← hY] at HN HLm hYn
        obtain ⟨L', hL'⟩ : ∃ L', L' = Lk.with1 L m := ⟨_, rfl⟩
        rw [← hL'] at HN HLm
        obtain ⟨J', hJ'⟩ : ∃ J', J' = Lk.bump H L J m := ⟨_, rfl⟩
        rw [← hJ'] at HN HLm
        have HN2 : Hid (Lk.Wl H L' J' (X.drop (q + 1)) (Z ++ Y) J0) := HN
        clear hY hL' hJ' hYl HN hwl hwl2 hmf hmj hxm
        have hZn : Z.length ≤ 2000000 := by omega
        go_wp2_with (first
          | (go_at_call 43; refine HLm.out.mono ?_; rintro e w5 ⟨v5, rfl, ho5, hoT5, hoJ5, hc5⟩; have HZ5 : Hid (OwnZ w5 wo.heap.size (.slice az Z.length cz) Z) := HZ.out.ch hc5 (fun b hb => by have := HZb.out b hb; simp; omega); have HX5 : Hid (OwnZ w5 b0 (.slice (some ⟨TX, 0, none⟩) X.length cx) X) := HX.out.ch hc5 (fun b hb => by have := HXb.out b hb; simp; omega); have HT5 : Hid (OwnN w5 N (.slice (some ⟨T, 0, none⟩) n n) n (H.size L')) := hoT5; have HJ5 : Hid (OwnN w5 N (.slice (some ⟨TJ, 0, none⟩) n n) n J') := hoJ5; have HC5 : Hid (Ch w w5 [T, TJ]) := HC.out.trans hc5; have hs5 : wo.heap.size ≤ w5.heap.size := Nat.le_trans hsr hc5.size; have HV5 : Hid (OwnZ w5 wr.heap.size v5 Y) := ho5; clear hoT5 hoJ5 hc5 ho5)
          | (at_builtin; refine wp_appZs rfl _ _ rfl wo.heap.size (.slice az Z.length cz) v5 Z Y wr.heap.size rfl HZ5.out rfl HV5.out hZn hYn hs5 ?_; intro v6 w6 ho6 hg6))
        have hk6 : ∀ T0 a c, T0 < wo.heap.size → (Value.slice (some ⟨T0, 0, none⟩) a c).ownBlock = none ∨ (Value.slice (some ⟨T0, 0, none⟩) a c).ownBlock ≠ (Value.slice az Z.length cz).ownBlock := fun T0 a c h0 => .inr (by
          show some T0 ≠ _
          intro e
          have := HZb.out T0 e.symm
          omega)
        exact ⟨⟨q + 1, L', J', Z ++ Y, by go_num, by omega, ho6, HX5.out.kept hg6 (hk6 TX _ _ hTX2), HT5.out.kept hg6 (hk6 T _ _ hTo), HJ5.out.kept hg6 (hk6 TJ _ _ hTJo), HN2.out, chApp HC5.out hg6 (fun b hb => Nat.le_trans HCH.out.size (HZb.out b hb)), Nat.le_trans hs5 hg6.size⟩, by simp [intOf]; omega⟩
      · obtain rfl : q = X.length := by omega
        rw [List.drop_length] at hwl
        clear HW
        by_cases hZ0 : Z = []
        · subst hZ0
          have HLe : Hid (H.Least L) := hwl.done
          clear hwl
          go_wp2
          rw [Exit.noGoto_normal]
          go_end0
          exact ⟨rfl, L, HLe.out, HT.out, HC.out.mono (fun k hk hm => by simp at hm ⊢; omega)⟩
        · have HWt : Hid (Lk.Wl H L J Z [] J) := hwl.turn
          have hlen2 : Z.length ≠ 0 := fun h => hZ0 (List.length_eq_zero_iff.1 h)
          have hlen : (Z.length == 0) = false := by simpa using hlen2
          clear hZ0 hwl
          go_wp2
          go_roundw
          case rel => exact ⟨L, J, Z, HZ.out.low hsz, HT.out, HJ.out, HWt.out, hct.2, HC.out, Nat.le_trans hsz hsr⟩
          case measure =>
            rw [HMs.out, HJ.out.cnt]
            omega
set_option maxRecDepth 100000 in
set_option maxHeartbeats 16000000 in
theorem pgrow_c {N : Nat} {w : World} {B : Nat} {P : Lk.PcV} {ia ma : Option Addr} {ic mc T : Nat} {p : Int} (h : Pt N w B 61 P ia ma ic mc (.slice (some ⟨T, 0, none⟩) P.n P.n)) (hTab : TabAt w) (hTN : 2 < N)
    (ho : OwnN w N (.slice (some ⟨T, 0, none⟩) P.n P.n) P.n (P.sh 2).s) (hBT : B ≠ T) (hP : P.Ok 2 p) (hn : P.n ≤ 1100000) (hS : ∀ i, i < P.n → 0 ≤ (P.sh 2).s i ∧ (P.sh 2).s i ≤ 40) :
    Calls Tryz.prog 22 #[.pointer (some ⟨B, 0, none⟩)] w fun e w' => e = .returned (.tuple #[]) ∧ ∃ L, (P.sh 2).Least L ∧ OwnN w' N (.slice (some ⟨T, 0, none⟩) P.n P.n) P.n ((P.sh 2).size L) ∧ Ch w w' [T] := by
  have hNw : N ≤ w.heap.size := by have := h.nb; have := h.lt; omega
  have hTw : T < w.heap.size := ho.lt T rfl
  have hBw : B < w.heap.size := h.lt
  have hT1 : N ≤ T := ho.base T rfl
  have e0 : (P.sh 2).size (fun _ => false) = (P.sh 2).s := by funext i; unfold Lk.Sh.size; simp
  have HI : Hid (∀ W, w.grownBy W none → Calls Tryz.prog 41 #[.pointer (some ⟨B, 0, none⟩)] W fun e w' => ∃ T, e = .returned (.slice (some ⟨T, 0, none⟩) P.n P.n) ∧ OwnN w' W.heap.size (.slice (some ⟨T, 0, none⟩) P.n P.n) P.n (Lk.immJ P 2 (P.sh 2).s) ∧ W.grownBy w' none) := fun W hW => pimms_any (h.grow hW) (ho.grow hW) hP hn hS
  have HF : Hid (∀ W TJ base, w.grownBy W none → OwnN W base (.slice (some ⟨TJ, 0, none⟩) P.n P.n) P.n (Lk.immJ P 2 (P.sh 2).s) → Calls Tryz.prog 42 #[.pointer (some ⟨B, 0, none⟩), .slice (some ⟨TJ, 0, none⟩) P.n P.n] W fun e w' => ∃ v, e = .returned v ∧ OwnZ w' W.heap.size v (Lk.farL (Lk.immJ P 2 (P.sh 2).s) (Lk.jl P P.n)) ∧ W.grownBy w' none) := fun W TJ base hW hJ => pfar_any (h.grow hW) hJ hn
  have HS0 : Hid (Lk.Wl (P.sh 2) (fun _ => false) (Lk.immJ P 2 (P.sh 2).s) (Lk.farL (Lk.immJ P 2 (P.sh 2).s) (Lk.jl P P.n)) [] (Lk.immJ P 2 (P.sh 2).s)) := Lk.Wl.start hP
  have HO : Hid (OwnN w N (.slice (some ⟨T, 0, none⟩) P.n P.n) P.n ((P.sh 2).size (fun _ => false))) := by rw [e0]; exact ho
  have hlj : (Lk.farL (Lk.immJ P 2 (P.sh 2).s) (Lk.jl P P.n)).length ≤ P.n := Nat.le_trans (Lk.farL_len _ _) (Lk.jl_len P P.n)
  have HLn : Hid (∀ W TJ L J Q m, Ch w W [T, TJ] → w.heap.size ≤ TJ → OwnN W N (.slice (some ⟨T, 0, none⟩) P.n P.n) P.n ((P.sh 2).size L) → OwnN W N (.slice (some ⟨TJ, 0, none⟩) P.n P.n) P.n J → Lk.St (P.sh 2) L J Q → m < P.n → Lk.jmpB (P.I m).op = true → Lk.fitB (J m) = false →
      Calls Tryz.prog 43 #[.pointer (some ⟨B, 0, none⟩), .int .i64 m, .slice (some ⟨TJ, 0, none⟩) P.n P.n] W fun e w' => ∃ v, e = .returned v ∧ OwnZ w' W.heap.size v (Lk.nl J (Lk.bump (P.sh 2) L J m) (m - 128) (min P.n (m + 129))) ∧
      OwnN w' N (.slice (some ⟨T, 0, none⟩) P.n P.n) P.n ((P.sh 2).size (Lk.with1 L m)) ∧ OwnN w' N (.slice (some ⟨TJ, 0, none⟩) P.n P.n) P.n (Lk.bump (P.sh 2) L J m) ∧ Ch W w' [T, TJ]) := fun W TJ L J Q m hC hTJ hoT hoJ st hm hj hf => by
    have hl : ∀ k, k ∈ [T, TJ] → N ≤ k := by intro k hk; simp at hk; omega
    exact plong_c (h.ch hC hl (by simp; omega)) (hTab.ch hC (by intro hm; have := hl _ hm; omega)) (Nat.le_trans hNw hC.size) hTN hoT hoJ (by omega) (by omega) (by omega) hP hn st hm hj hf
  have HSt : Hid (∀ L J R Z J0 (m : Nat), Lk.Wl (P.sh 2) L J ((m : Int) :: R) Z J0 → Lk.Wl (P.sh 2) (Lk.with1 L m) (Lk.bump (P.sh 2) L J m) R (Z ++ Lk.nl J (Lk.bump (P.sh 2) L J m) (m - 128) (min P.n (m + 129))) J0) := fun L J R Z J0 m hw => hw.step hP.sh
  have HFa : Hid (∀ J x, Lk.FarAt (P.sh 2) J x → ∃ i : Nat, i < P.n ∧ x = i ∧ Lk.jmpB (P.I i).op = true ∧ Lk.fitB (J i) = false) := fun J x hx => hx
  have HCt : Hid (∀ L J R Z J0, Lk.Wl (P.sh 2) L J R Z J0 → Lk.cnt J P.n + Z.length = Lk.cnt J0 P.n ∧ Z.length ≤ P.n) := fun L J R Z J0 hw => ⟨hw.ct, show Z.length ≤ (P.sh 2).n from by have := hw.ct; have := Lk.cnt_le J0 (P.sh 2).n; omega⟩
  clear h hTab ho hP hS e0
  obtain ⟨H, hH⟩ : ∃ H, H = P.sh 2 := ⟨_, rfl⟩
  rw [← hH] at HI HF HS0 HO hlj HLn HSt HFa HCt ⊢
  clear hH
  obtain ⟨J1, hJ1⟩ : ∃ J1, J1 = Lk.immJ P 2 H.s := ⟨_, rfl⟩
  rw [← hJ1] at HI HF HS0 hlj
  clear hJ1
  obtain ⟨X1, hX1⟩ : ∃ X1, X1 = Lk.farL J1 (Lk.jl P P.n) := ⟨_, rfl⟩
  rw [← hX1] at HF HS0 hlj
  clear hX1
  obtain ⟨n, hnn⟩ : ∃ n, n = P.n := ⟨_, rfl⟩
  rw [← hnn] at HI HF HO HLn HSt HFa HCt hlj hn ⊢
  clear hnn
  have hn' : (n : Int) ≤ 1100000 := by omega
  go_enter Tryz.func22, Tryz.ntmps22
  go_step3
  go_wp2_with (first
    | (go_at_call 41; refine (HI.out _ (World.grownBy.refl _ _)).mono ?_; rintro e w1 ⟨TJ, rfl, ho1, hg1⟩; have HO1 : Hid (OwnN w1 w.heap.size (.slice (some ⟨TJ, 0, none⟩) n n) n J1) := ho1; have HG1 : Hid (w.grownBy w1 none) := hg1; clear ho1 hg1)
    | (go_at_call 42; refine (HF.out _ TJ w.heap.size HG1.out HO1.out).mono ?_; rintro e w2 ⟨v2, rfl, ho2, hg2⟩; have HO2 : Hid (OwnZ w2 w1.heap.size v2 X1) := ho2; have HG2 : Hid (w1.grownBy w2 none) := hg2; clear ho2 hg2))
  go_step3
  go_wp2_with fail
  have hTJ : w.heap.size ≤ TJ := HO1.out.base TJ rfl
  have hTJ1 : TJ < w1.heap.size := HO1.out.lt TJ rfl
  have hw1 : w.heap.size ≤ w1.heap.size := HG1.out.size
  have HOT2 : Hid (OwnN w2 N (.slice (some ⟨T, 0, none⟩) n n) n (H.size (fun _ => false))) := HO.out.grow (grown_trans HG1.out HG2.out)
  have HOJ2 : Hid (OwnN w2 N (.slice (some ⟨TJ, 0, none⟩) n n) n J1) := (HO1.out.grow HG2.out).low hNw
  have HC2 : Hid (Ch w w2 [T, TJ]) := Ch.of (grown_trans HG1.out HG2.out)
  obtain ⟨b0, hb0⟩ : ∃ b0, b0 = w1.heap.size := ⟨_, rfl⟩
  have hs2 : b0 ≤ w2.heap.size := by rw [hb0]; exact HG2.out.size
  rw [← hb0] at HO2 hTJ1 hw1
  clear HO HO1 HG1 HG2 HI HF hb0
  go_loopw [3] (fun v wr => ∃ L J X, OwnZ wr b0 v X ∧ OwnN wr N (.slice (some ⟨T, 0, none⟩) n n) n (H.size L) ∧ OwnN wr N (.slice (some ⟨TJ, 0, none⟩) n n) n J ∧ Lk.Wl H L J X [] J ∧ X.length ≤ n ∧ Ch w wr [T, TJ] ∧ b0 ≤ wr.heap.size) (fun _ wr => Lk.cnt (rdJ wr TJ) n)
  case atStart => exact ⟨_, _, X1, HO2.out, HOT2.out, HOJ2.out, HS0.out, hlj, HC2.out, hs2⟩
  case round =>
    obtain ⟨al, hal⟩ : ∃ al, al = u3 := ⟨_, rfl⟩
    obtain ⟨L0, J0, X, hoX, hoT, hoJ, hwl, hlX, hch, hsz⟩ := hrel
    rw [← hal] at hoX ⊢
    clear hal
    obtain ⟨wo, rfl⟩ : ∃ wo, wo = wr := ⟨wr, rfl⟩
    obtain ⟨ax, cx, rfl, _, _, hax⟩ := hoX.slice
    have HOX : Hid (OwnZ wo b0 (.slice ax X.length cx) X) := hoX
    have HOT : Hid (OwnN wo N (.slice (some ⟨T, 0, none⟩) n n) n (H.size L0)) := hoT
    have HOJ : Hid (OwnN wo N (.slice (some ⟨TJ, 0, none⟩) n n) n J0) := hoJ
    have HWL : Hid (Lk.Wl H L0 J0 X [] J0) := hwl
    have HCH : Hid (Ch w wo [T, TJ]) := hch
    have HMs : Hid (Lk.cnt (rdJ wo TJ) n = Lk.cnt J0 n) := hoJ.cnt
    have HAX : Hid (0 < X.length → ∃ T, ax = some ⟨T, 0, none⟩ ∧ b0 ≤ T ∧ T < wo.heap.size) := hax
    clear hoX hoT hoJ hwl hch hax
    go_wp2_with fail
    go_loopw [4, 14] (fun nx i wr => ∃ (q : Nat) (L : Nat → Bool) (J : Nat → Int) (Z : List Int), i = .int .i64 q ∧ q ≤ X.length ∧ OwnZ wr wo.heap.size nx Z ∧ OwnZ wr b0 (.slice ax X.length cx) X ∧ OwnN wr N (.slice (some ⟨T, 0, none⟩) n n) n (H.size L) ∧ OwnN wr N (.slice (some ⟨TJ, 0, none⟩) n n) n J ∧ Lk.Wl H L J (X.drop q) Z J0 ∧ Ch w wr [T, TJ] ∧ wo.heap.size ≤ wr.heap.size) (fun _ i _ => X.length - (intOf i).toNat)
    case atStart => exact ⟨0, L0, J0, [], rfl, Nat.zero_le _, World.ownsRow_nil _ _ _ _, HOX.out, HOT.out, HOJ.out, HWL.out, HCH.out, Nat.le_refl _⟩
    case round =>
      obtain ⟨nv, hnv⟩ : ∃ nv, nv = u4 := ⟨_, rfl⟩
      obtain ⟨q, L, J, Z, rfl, hq, hoZ, hoX, hoT, hoJ, hwl, hch, hsr⟩ := hrel
      rw [← hnv] at hoZ ⊢
      clear hnv
      obtain ⟨az, cz, rfl, _⟩ := hoZ.slice
      have HZ : Hid (OwnZ wr wo.heap.size (.slice az Z.length cz) Z) := hoZ
      have HX : Hid (OwnZ wr b0 (.slice ax X.length cx) X) := hoX
      have HT : Hid (OwnN wr N (.slice (some ⟨T, 0, none⟩) n n) n (H.size L)) := hoT
      have HJ : Hid (OwnN wr N (.slice (some ⟨TJ, 0, none⟩) n n) n J) := hoJ
      have HW : Hid (Lk.Wl H L J (X.drop q) Z J0) := hwl
      have HC : Hid (Ch w wr [T, TJ]) := hch
      have hct := HCt.out L J _ Z J0 hwl
      have HXb : Hid (∀ b, (Value.slice ax X.length cx).ownBlock = some b → b < wo.heap.size ∧ b ≠ T ∧ b ≠ TJ) := fun b hb => by
        have h1 := HOX.out.lt b hb
        have h2 := HOX.out.base b hb
        omega
      have HZb : Hid (∀ b, (Value.slice az Z.length cz).ownBlock = some b → wo.heap.size ≤ b) := HZ.out.base
      have hTo : T < wo.heap.size := by have := HCH.out.size; omega
      have hTJo : TJ < wo.heap.size := by omega
      clear hoZ hoX hoT hoJ hch
      by_cases hqX : q < X.length
      · have hqX' : (q : Int) < X.length := by omega
        obtain ⟨TX, rfl, hTX1, hTX2⟩ := HAX.out (by omega)
        obtain ⟨m, hm, hxm, hmj, hmf⟩ := HFa.out J X[q] (hwl.fr _ (by rw [List.drop_eq_getElem_cons hqX]; exact List.mem_cons_self))
        have cq : wr.cell? ⟨TX, q, none⟩ = some (.int .i64 (m : Int)) := by
          rw [HX.out.n.cell hqX, List.getD_eq_getElem?_getD, List.getElem?_eq_getElem hqX]
          simp [hxm]
        have hwl2 : Lk.Wl H L J ((m : Int) :: X.drop (q + 1)) Z J0 := by
          have := hwl
          rw [List.drop_eq_getElem_cons hqX, hxm] at this
          exact this
        have HN := HSt.out L J _ Z J0 m hwl2
        have HLm : Hid (Calls Tryz.prog 43 #[.pointer (some ⟨B, 0, none⟩), .int .i64 m, .slice (some ⟨TJ, 0, none⟩) n n] wr fun e w' => ∃ v, e = .returned v ∧ OwnZ w' wr.heap.size v (Lk.nl J (Lk.bump H L J m) (m - 128) (min n (m + 129))) ∧ OwnN w' N (.slice (some ⟨T, 0, none⟩) n n) n (H.size (Lk.with1 L m)) ∧ OwnN w' N (.slice (some ⟨TJ, 0, none⟩) n n) n (Lk.bump H L J m) ∧ Ch wr w' [T, TJ]) := HLn.out wr TJ L J _ m HC.out hTJ HT.out HJ.out hwl.st hm hmj hmf
        have hYl := Lk.nl_len J (Lk.bump H L J m) (m - 128) (min n (m + 129))
        have hYn : (Lk.nl J (Lk.bump H L J m) (m - 128) (min n (m + 129))).length ≤ 2000000 := by have := Nat.min_le_left n (m + 129); omega
        obtain ⟨Y, hY⟩ : ∃ Y, Y = Lk.nl J (Lk.bump H L J m) (m - 128) (min n (m + 129)) := ⟨_, rfl⟩
        rw [← hY] at HN HLm hYn
        obtain ⟨L', hL'⟩ : ∃ L', L' = Lk.with1 L m := ⟨_, rfl⟩
        rw [← hL'] at HN HLm
        obtain ⟨J', hJ'⟩ : ∃ J', J' = Lk.bump H L J m := ⟨_, rfl⟩
        rw [← hJ'] at HN HLm
        have HN2 : Hid (Lk.Wl H L' J' (X.drop (q + 1)) (Z ++ Y) J0) := HN
        clear hY hL' hJ' hYl HN hwl hwl2 hmf hmj hxm
        have hZn : Z.length ≤ 2000000 := by omega
        go_wp2_with (first
          | (go_at_call 43; refine HLm.out.mono ?_; rintro e w5 ⟨v5, rfl, ho5, hoT5, hoJ5, hc5⟩; have HZ5 : Hid (OwnZ w5 wo.heap.size (.slice az Z.length cz) Z) := HZ.out.ch hc5 (fun b hb => by have := HZb.out b hb; simp; omega); have HX5 : Hid (OwnZ w5 b0 (.slice (some ⟨TX, 0, none⟩) X.length cx) X) := HX.out.ch hc5 (fun b hb => by have := HXb.out b hb; simp; omega); have HT5 : Hid (OwnN w5 N (.slice (some ⟨T, 0, none⟩) n n) n (H.size L')) := hoT5; have HJ5 : Hid (OwnN w5 N (.slice (some ⟨TJ, 0, none⟩) n n) n J') := hoJ5; have HC5 : Hid (Ch w w5 [T, TJ]) := HC.out.trans hc5; have hs5 : wo.heap.size ≤ w5.heap.size := Nat.le_trans hsr hc5.size; have HV5 : Hid (OwnZ w5 wr.heap.size v5 Y) := ho5; clear hoT5 hoJ5 hc5 ho5)
          | (at_builtin; refine wp_appZs rfl _ _ rfl wo.heap.size (.slice az Z.length cz) v5 Z Y wr.heap.size rfl HZ5.out rfl HV5.out hZn hYn hs5 ?_; intro v6 w6 ho6 hg6))
        have hk6 : ∀ T0 a c, T0 < wo.heap.size → (Value.slice (some ⟨T0, 0, none⟩) a c).ownBlock = none ∨ (Value.slice (some ⟨T0, 0, none⟩) a c).ownBlock ≠ (Value.slice az Z.length cz).ownBlock := fun T0 a c h0 => .inr (by
          show some T0 ≠ _
          intro e
          have := HZb.out T0 e.symm
          omega)
        exact ⟨⟨q + 1, L', J', Z ++ Y, by go_num, by omega, ho6, HX5.out.kept hg6 (hk6 TX _ _ hTX2), HT5.out.kept hg6 (hk6 T _ _ hTo), HJ5.out.kept hg6 (hk6 TJ _ _ hTJo), HN2.out, chApp HC5.out hg6 (fun b hb => Nat.le_trans HCH.out.size (HZb.out b hb)), Nat.le_trans hs5 hg6.size⟩, by simp [intOf]; omega⟩
      · obtain rfl : q = X.length := by omega
        rw [List.drop_length] at hwl
        clear HW
        by_cases hZ0 : Z = []
        · subst hZ0
          have HLe : Hid (H.Least L) := hwl.done
          clear hwl
          go_wp2
          rw [Exit.noGoto_normal]
          go_end0
          exact ⟨rfl, L, HLe.out, HT.out, HC.out.mono (fun k hk hm => by simp at hm ⊢; omega)⟩
        · have HWt : Hid (Lk.Wl H L J Z [] J) := hwl.turn
          have hlen2 : Z.length ≠ 0 := fun h => hZ0 (List.length_eq_zero_iff.1 h)
          have hlen : (Z.length == 0) = false := by simpa using hlen2
          clear hZ0 hwl
          go_wp2
          go_roundw
          case rel => exact ⟨L, J, Z, HZ.out.low hsz, HT.out, HJ.out, HWt.out, hct.2, HC.out, Nat.le_trans hsz hsr⟩
          case measure =>
            rw [HMs.out, HJ.out.cnt]
            omega
end Go.Proofs.YtkiockffejlnhaaGreatDoor

/- link's measure: the least size of each instruction, or that one may not be. -/
namespace Go.Proofs.YtkiockffejlnhaaGreatDoor
open Go.RowKit
set_option linter.unusedVariables false
namespace Lk
def instsB (t p : Int) (P : PcV) : Bool := (List.range P.n).all fun i => instB t P.m p (P.I i)
theorem instsB_iff {t p : Int} {P : PcV} : instsB t p P = true ↔ ∀ i, i < P.n → instB t P.m p (P.I i) = true := by unfold instsB; simp
theorem instsB_no {t p : Int} {P : PcV} {i : Nat} (hi : i < P.n) (h : instB t P.m p (P.I i) = false) : instsB t p P = false := by
  cases hb : instsB t p P
  · rfl
  · rw [instsB_iff.1 hb i hi] at h
    cases h
end Lk
def psiV (vals : List Value) (i : Nat) (v : Value) (w : World) : Prop := v = vals.getD i undef
theorem InstAt.ch {w w' : World} {l : List Nat} {B : Nat} {v : InV} (h : InstAt w B v) (hg : w.grownBy w' none) : InstAt w' B v := h.kept hg (by simp)
theorem Pt.set {N : Nat} {w : World} {B fe : Nat} {P : Lk.PcV} {ia ma : Option Addr} {ic mc : Nat} {sv : Value} (h : Pt N w B fe P ia ma ic mc sv) (sv' : Value) : Pt N (w.setCell ⟨B, 3, none⟩ sv') B fe P ia ma ic mc sv' := by
  have hC : Ch w (w.setCell ⟨B, 3, none⟩ sv') [B] := Ch.one (grown_set _ _ _ _) (by simp)
  have hl : ∀ k, k ∈ [B] → N ≤ k := by intro k hk; simp at hk; rw [hk]; exact h.nb
  refine ⟨?_, h.ins.ch hC hl, h.mks.ch hC hl, h.nb⟩
  obtain ⟨hlt, hk⟩ := Array.getElem?_eq_some_iff.1 h.blk
  show (w.heap.modify B _)[B]? = _
  rw [Array.getElem?_eq_getElem (by rw [Array.size_modify]; exact hlt), Array.getElem_modify_self, hk]
  rfl
set_option maxRecDepth 100000 in
set_option maxHeartbeats 16000000 in
theorem pmeas_r {N : Nat} {w : World} {B : Nat} {P : Lk.PcV} {ia ma : Option Addr} {ic mc : Nat} (p : Int) (h : Pt N w B 60 P ia ma ic mc (.slice none 0 0)) (hTab : TabAt w) (hTN : 2 < N) (hn : (P.n : Int) ≤ 8796093022208) :
    Calls Tryz.prog 40 #[.pointer (some ⟨B, 0, none⟩), .int .i64 p] w fun e w' => e = .returned (.bool (Lk.instsB 1 p P)) ∧ Ch w w' [B] ∧
      (Lk.instsB 1 p P = true → Pt N w' B 60 P ia ma ic mc (.slice (some ⟨w.heap.size, 0, none⟩) P.n P.n) ∧ OwnN w' N (.slice (some ⟨w.heap.size, 0, none⟩) P.n P.n) P.n (P.sh 1).s) := by
  have hNw : N ≤ w.heap.size := by have := h.nb; have := h.lt; omega
  have hBw := h.lt
  have hNB := h.nb
  obtain ⟨w1, hmk, ho1, hg1⟩ := run_make_n w P.n hn
  have f3 : w1.frozen? ⟨B, 3, none⟩ = false := (h.grow hg1).fz 3
  have c1 := h.c1
  have c31 := (h.grow hg1).c3
  have HP0 : Hid (Pt N (w1.setCell ⟨B, 3, none⟩ (.slice (some ⟨w.heap.size, 0, none⟩) P.n P.n)) B 60 P ia ma ic mc (.slice (some ⟨w.heap.size, 0, none⟩) P.n P.n)) := (h.grow hg1).set _
  have c12 := HP0.out.c1
  have HC0 : Hid (Ch w (w1.setCell ⟨B, 3, none⟩ (.slice (some ⟨w.heap.size, 0, none⟩) P.n P.n)) [B]) := (Ch.of hg1).trans (Ch.one (grown_set _ _ _ _) (by simp))
  have HO0 : Hid (OwnN (w1.setCell ⟨B, 3, none⟩ (.slice (some ⟨w.heap.size, 0, none⟩) P.n P.n)) w.heap.size (.slice (some ⟨w.heap.size, 0, none⟩) P.n P.n) P.n (fun _ => 0)) := ho1.kept (grown_set _ _ _ _) (.inr (by simp [Value.ownBlock]; omega))
  have HTb : Hid (TabAt w) := hTab
  have HNo : Hid (∀ i, i < P.n → Lk.instB 1 P.m p (P.I i) = false → Lk.instsB 1 p P = false) := fun i hi hf => Lk.instsB_no hi hf
  have HYes : Hid ((∀ i, i < P.n → Lk.instB 1 P.m p (P.I i) = true) → Lk.instsB 1 p P = true) := Lk.instsB_iff.2
  have HSz : Hid (∀ i, (P.sh 1).s i = ((Ru.encT 1 (Lk.bare (P.I i))).length : Int)) := fun i => rfl
  clear h hTab ho1 hg1
  obtain ⟨R, hR⟩ : ∃ R, R = Lk.instsB 1 p P := ⟨_, rfl⟩
  obtain ⟨Ss, hSs⟩ : ∃ Ss, Ss = (P.sh 1).s := ⟨_, rfl⟩
  rw [← hR] at HNo HYes ⊢
  rw [← hSs] at HSz ⊢
  clear hR hSs
  obtain ⟨n, hnn⟩ : ∃ n, n = P.n := ⟨_, rfl⟩
  rw [← hnn] at hn hmk c1 HP0 c12 HC0 HO0 HNo HYes ⊢
  have HNn : Hid (n = P.n) := hnn
  clear hnn
  obtain ⟨S0, hS0⟩ : ∃ S0, S0 = w.heap.size := ⟨_, rfl⟩
  rw [← hS0] at hmk HP0 c12 HC0 HO0 ⊢
  have hSw : S0 ≤ w.heap.size ∧ w.heap.size ≤ S0 := ⟨Nat.le_of_eq hS0, Nat.le_of_eq hS0.symm⟩
  have hNS : N ≤ S0 := by omega
  have hBS : B ≠ S0 := by omega
  clear hS0
  go_enter Tryz.func40, Tryz.ntmps40
  go_wp2_with fail
  go_loopw [23] (fun i wr => ∃ k : Nat, i = .int .i64 k ∧ k ≤ n ∧ Pt N wr B 60 P ia ma ic mc (.slice (some ⟨S0, 0, none⟩) n n) ∧ OwnN wr S0 (.slice (some ⟨S0, 0, none⟩) n n) n (fun i => if i < k then Ss i else 0) ∧ Ch w wr [B] ∧ (∀ i, i < k → Lk.instB 1 P.m p (P.I i) = true)) (fun i _ => n - (intOf i).toNat)
  case atStart => exact ⟨0, rfl, Nat.zero_le _, HP0.out, HO0.out.congr (fun i _ => by simp), HC0.out, fun i hi => by omega⟩
  case round =>
    obtain ⟨k, rfl, hk, hpt, hoS, hch, hall⟩ := hrel
    have HPt : Hid (Pt N wr B 60 P ia ma ic mc (.slice (some ⟨S0, 0, none⟩) n n)) := hpt
    have HOS : Hid (OwnN wr S0 (.slice (some ⟨S0, 0, none⟩) n n) n (fun i => if i < k then Ss i else 0)) := hoS
    have HCH : Hid (Ch w wr [B]) := hch
    have HAL : Hid (∀ i, i < k → Lk.instB 1 P.m p (P.I i) = true) := hall
    have hSr : S0 < wr.heap.size := hoS.lt S0 rfl
    have hBr : B < wr.heap.size := hpt.lt
    clear hoS hch hall
    by_cases hkn : k < n
    · have hkn' : (k : Int) < n := by omega
      obtain ⟨b, off, rfl, hb, hin, hrng⟩ := hpt.ins.at (i := k) (by rw [← HNn.out]; exact hkn)
      obtain ⟨v, hv⟩ : ∃ v, v = P.I k := ⟨_, rfl⟩
      rw [← hv] at hin hrng
      have HTw : Hid (∀ W, wr.grownBy W none → TabAt W) := fun W g => (HTb.out.ch HCH.out (by simp; omega)).kept g (by simp)
      have HLb : Hid (∀ W, wr.grownBy W none → Calls Tryz.prog 62 #[.pointer (some ⟨B, 0, none⟩), .agg #[.int .i64 v.op, .int .i64 v.a, .int .i64 v.b, .int .i64 v.c, .int .i64 v.k, .int .i64 v.sub, .int .i64 v.scale, .int .i64 v.imm, .int .i64 v.label], .int .i64 p] W fun e w' => e = .returned (.bool (Lk.labB P.m p v)) ∧ W.grownBy w' none) := fun W g => plabel_any (HPt.out.grow g) v p
      have HI : Hid (Lk.instB 1 P.m p (P.I k) = (Lk.labB P.m p v && Ru.mayT 1 (Lk.bare v))) := by rw [hv]; rfl
      have HSk : Hid (Ss k = ((Ru.encT 1 (Lk.bare v)).length : Int)) := by rw [hv]; exact HSz.out k
      have hrb : InRng (Lk.bare v) := ⟨hrng.i1, hrng.i2, hrng.s1, hrng.s2⟩
      obtain ⟨d0, d1, d2, d3, d4, d5, d6, d7, d8⟩ := hin
      have IN := InstAt.new wr v
      have hA := World.grownBy_alloc wr (Obj.cells #[.int .i64 v.op, .int .i64 v.a, .int .i64 v.b, .int .i64 v.c, .int .i64 v.k, .int .i64 v.sub, .int .i64 v.scale, .int .i64 v.imm, .int .i64 v.label] 50) none
      clear hpt hrng hv
      cases hlb : Lk.labB P.m p v
      · rw [hlb] at HLb HI
        go_wp2_with (go_at_call 62; refine (HLb.out _ hA).mono ?_; rintro e w4 ⟨rfl, hg4⟩)
        go_ret
        rw [HNo.out k hkn (by rw [HI.out]; rfl)]
        exact ⟨rfl, HCH.out.trans (Ch.of (grown_trans hA hg4)), fun h => by cases h⟩
      · rw [hlb] at HLb HI
        simp only [Bool.true_and] at HI
        go_wp2_with (go_at_call 62; refine (HLb.out _ hA).mono ?_; rintro e w4 ⟨rfl, hg4⟩; have z8 := (IN.kept hg4 (by simp)).fz 8; have y8 := (IN.kept hg4 (by simp)).c8)
        have IN5 : InstAt (w4.setCell ⟨wr.heap.size, 8, none⟩ (.int .i64 0)) wr.heap.size (Lk.bare v) := (IN.kept hg4 (by simp)).set8 0
        have HG5 : Hid (wr.grownBy (w4.setCell ⟨wr.heap.size, 8, none⟩ (.int .i64 0)) none) := gs (grown_trans hA hg4) _ _ (Nat.le_refl _)
        clear hA hg4 d0 d1 d2 d3 d4 d5 d6 d7 d8 IN z8 y8
        obtain ⟨bx, hbx⟩ : ∃ bx, bx = wr.heap.size := ⟨_, rfl⟩
        rw [← hbx] at IN5 HG5 ⊢
        obtain ⟨W5, hW5⟩ : ∃ W5, W5 = w4.setCell ⟨bx, 8, none⟩ (.int .i64 0) := ⟨_, rfl⟩
        rw [← hW5] at IN5 HG5 ⊢
        clear hW5
        have HP5 : Hid (Pt N W5 B 60 P (some ⟨b, off, none⟩) ma ic mc (.slice (some ⟨S0, 0, none⟩) n n)) := HPt.out.grow HG5.out
        have p0 := HP5.out.c0
        obtain ⟨x0, x1, x2, x3, x4, x5, x6, x7, x8, xz⟩ := IN5
        simp only [Lk.bare] at x0 x1 x2 x3 x4 x5 x6 x7 x8
        clear xz
        cases hmt : Ru.mayT 1 (Lk.bare v)
        · rw [hmt] at HI
          have HEn : Hid (∀ W, W5.grownBy W none → Calls Tryz.prog 60 #[.agg #[.int .i64 v.op, .int .i64 v.a, .int .i64 v.b, .int .i64 v.c, .int .i64 v.k, .int .i64 v.sub, .int .i64 v.scale, .int .i64 v.imm, .int .i64 0]] W fun e w' => e = .returned (.tuple #[.slice none 0 0, .int .i64 30]) ∧ W.grownBy w' none) := fun W g => enc_rn (Lk.bare v) W hrb hmt
          go_cut [7, 8] (fun b e wx => b = .slice none 0 0 ∧ e = .int .i64 30 ∧ W5.grownBy wx none)
          case first =>
            refine region_late 9 8 _ _ _ (psiV [.pointer (some ⟨B, 0, none⟩), .pointer (some ⟨B, 0, none⟩), .pointer (some ⟨B, 0, none⟩), .func (.func 60) #[] #[], .agg #[.int .i64 v.op, .int .i64 v.a, .int .i64 v.b, .int .i64 v.c, .int .i64 v.k, .int .i64 v.sub, .int .i64 v.scale, .int .i64 v.imm, .int .i64 0], .tuple #[.slice none 0 0, .int .i64 30], .tuple #[.slice none 0 0, .int .i64 30], .slice none 0 0, .int .i64 30]) (by kernel_rfl) (by kernel_rfl) rfl rfl rfl (by kernel_rfl) (by kernel_rfl) (fun i x w0 w1 hi h g => h) ?_ ?_ ?_
            · simp only [List.take_succ_cons, List.take_zero]
              refine ⟨?_, ?_, ?_, ?_, ?_, ?_, ?_, ?_, ?_, trivial⟩
              · intro V W0 A g hV hs hz
                have gD : W5.grownBy W0 none := grown_trans (grown_drew (World.grownBy.refl _ none)) g
                have e00 := hz 0 (.pointer (some ⟨B, 0, none⟩)) (by kernel_rfl) rfl
                clear hV hs hz
                refine outO_val (v := .pointer (some ⟨B, 0, none⟩)) (w' := W0) ?_ (World.grownBy.refl _ _) rfl
                simp [go_sem, e00]
              · intro V W0 A g hV hs hz
                have gD : W5.grownBy W0 none := grown_trans (grown_drew (World.grownBy.refl _ none)) g
                have q0 : V 0 = .pointer (some ⟨B, 0, none⟩) := hV 0 (by kernel_rfl)
                have e0 := hs 35 0 (by kernel_rfl) (by kernel_rfl)
                clear hV hs hz
                refine outO_val (v := .pointer (some ⟨B, 0, none⟩)) (w' := W0) ?_ (World.grownBy.refl _ _) rfl
                simp [go_sem, q0, e0]
              · intro V W0 A g hV hs hz
                have gD : W5.grownBy W0 none := grown_trans (grown_drew (World.grownBy.refl _ none)) g
                have q1 : V 1 = .pointer (some ⟨B, 0, none⟩) := hV 1 (by kernel_rfl)
                have e1 := hs 36 1 (by kernel_rfl) (by kernel_rfl)
                clear hV hs hz
                refine outO_val (v := .pointer (some ⟨B, 0, none⟩)) (w' := W0) ?_ (World.grownBy.refl _ _) rfl
                simp [go_sem, q1, e1]
              · intro V W0 A g hV hs hz
                have gD : W5.grownBy W0 none := grown_trans (grown_drew (World.grownBy.refl _ none)) g
                have q2 : V 2 = .pointer (some ⟨B, 0, none⟩) := hV 2 (by kernel_rfl)
                have e2 := hs 37 2 (by kernel_rfl) (by kernel_rfl)
                have x0 := gD.cell p0 (by simp)
                clear hV hs hz
                refine outO_val (v := .func (.func 60) #[] #[]) (w' := W0) ?_ (World.grownBy.refl _ _) rfl
                simp [go_sem, q2, e2, x0]
              · intro V W0 A g hV hs hz
                have gD : W5.grownBy W0 none := grown_trans (grown_drew (World.grownBy.refl _ none)) g
                have e06 := hz 6 (.pointer (some ⟨bx, 0, none⟩)) (by kernel_rfl) rfl
                have x0 := gD.cell x0 (by simp)
                have x1 := gD.cell x1 (by simp)
                have x2 := gD.cell x2 (by simp)
                have x3 := gD.cell x3 (by simp)
                have x4 := gD.cell x4 (by simp)
                have x5 := gD.cell x5 (by simp)
                have x6 := gD.cell x6 (by simp)
                have x7 := gD.cell x7 (by simp)
                have x8 := gD.cell x8 (by simp)
                clear hV hs hz
                refine outO_val (v := .agg #[.int .i64 v.op, .int .i64 v.a, .int .i64 v.b, .int .i64 v.c, .int .i64 v.k, .int .i64 v.sub, .int .i64 v.scale, .int .i64 v.imm, .int .i64 0]) (w' := W0) ?_ (World.grownBy.refl _ _) rfl
                simp [go_sem, e06, x0, x1, x2, x3, x4, x5, x6, x7, x8]
              · intro V W0 A g hV hs hz
                have gD : W5.grownBy W0 none := grown_trans (grown_drew (World.grownBy.refl _ none)) g
                have q3 : V 3 = .func (.func 60) #[] #[] := hV 3 (by kernel_rfl)
                have e3 := hs 38 3 (by kernel_rfl) (by kernel_rfl)
                have q4 : V 4 = .agg #[.int .i64 v.op, .int .i64 v.a, .int .i64 v.b, .int .i64 v.c, .int .i64 v.k, .int .i64 v.sub, .int .i64 v.scale, .int .i64 v.imm, .int .i64 0] := hV 4 (by kernel_rfl)
                have e4 := hs 39 4 (by kernel_rfl) (by kernel_rfl)
                clear hV hs hz
                refine outO_call (f := 60) ?_ ((HEn.out W0 gD).mono fun e w2 ⟨he, hg⟩ => ⟨_, he, hg, rfl⟩)
                simp [go_sem, q3, e3, q4, e4]
              · intro V W0 A g hV hs hz
                have gD : W5.grownBy W0 none := grown_trans (grown_drew (World.grownBy.refl _ none)) g
                have q5 : V 5 = .tuple #[.slice none 0 0, .int .i64 30] := hV 5 (by kernel_rfl)
                have e5 := hs 40 5 (by kernel_rfl) (by kernel_rfl)
                clear hV hs hz
                refine outO_val (v := .tuple #[.slice none 0 0, .int .i64 30]) (w' := W0) ?_ (World.grownBy.refl _ _) rfl
                simp [go_sem, q5, e5]
              · intro V W0 A g hV hs hz
                have gD : W5.grownBy W0 none := grown_trans (grown_drew (World.grownBy.refl _ none)) g
                have q6 : V 6 = .tuple #[.slice none 0 0, .int .i64 30] := hV 6 (by kernel_rfl)
                have e6 := hs 34 6 (by kernel_rfl) (by kernel_rfl)
                clear hV hs hz
                refine outO_val (v := .slice none 0 0) (w' := W0) ?_ (World.grownBy.refl _ _) rfl
                simp [go_sem, q6, e6]
              · intro V W0 A g hV hs hz
                have gD : W5.grownBy W0 none := grown_trans (grown_drew (World.grownBy.refl _ none)) g
                have q6 : V 6 = .tuple #[.slice none 0 0, .int .i64 30] := hV 6 (by kernel_rfl)
                have e6 := hs 34 6 (by kernel_rfl) (by kernel_rfl)
                clear hV hs hz
                refine outO_val (v := .int .i64 30) (w' := W0) ?_ (World.grownBy.refl _ _) rfl
                simp [go_sem, q6, e6]
            · intro V W0 g hV
              have gD : W5.grownBy W0 none := grown_trans (grown_drew (World.grownBy.refl _ none)) g
              have h0 : V 0 = .pointer (some ⟨B, 0, none⟩) := hV 0 (by decide)
              have h1 : V 1 = .pointer (some ⟨B, 0, none⟩) := hV 1 (by decide)
              have h2 : V 2 = .pointer (some ⟨B, 0, none⟩) := hV 2 (by decide)
              have h3 : V 3 = .func (.func 60) #[] #[] := hV 3 (by decide)
              have h4 : V 4 = .agg #[.int .i64 v.op, .int .i64 v.a, .int .i64 v.b, .int .i64 v.c, .int .i64 v.k, .int .i64 v.sub, .int .i64 v.scale, .int .i64 v.imm, .int .i64 0] := hV 4 (by decide)
              have h5 : V 5 = .tuple #[.slice none 0 0, .int .i64 30] := hV 5 (by decide)
              have h6 : V 6 = .tuple #[.slice none 0 0, .int .i64 30] := hV 6 (by decide)
              have h7 : V 7 = .slice none 0 0 := hV 7 (by decide)
              have h8 : V 8 = .int .i64 30 := hV 8 (by decide)
              simp [frV, dstOf, Act.put, h0, h1, h2, h3, h4, h5, h6, h7, h8]
              clear h0 h1 h2 h3 h4 h5 h6 h7 h8 hV g
              have GR : Hid (W5.grownBy W0 none) := gD
              clear gD
              go_wp2_with fail
              go_meet
              exact ⟨rfl, rfl, GR.out⟩
            · intro V W0 g hV hold
              have gD : W5.grownBy W0 none := grown_trans (grown_drew (World.grownBy.refl _ none)) g
              have h0 : V 0 = .pointer (some ⟨B, 0, none⟩) := hV 0 (by decide) (by decide)
              have h1 : V 1 = .pointer (some ⟨B, 0, none⟩) := hV 1 (by decide) (by decide)
              have h2 : V 2 = .pointer (some ⟨B, 0, none⟩) := hV 2 (by decide) (by decide)
              have h3 : V 3 = .func (.func 60) #[] #[] := hV 3 (by decide) (by decide)
              have h4 : V 4 = .agg #[.int .i64 v.op, .int .i64 v.a, .int .i64 v.b, .int .i64 v.c, .int .i64 v.k, .int .i64 v.sub, .int .i64 v.scale, .int .i64 v.imm, .int .i64 0] := hV 4 (by decide) (by decide)
              have h5 : V 5 = .tuple #[.slice none 0 0, .int .i64 30] := hV 5 (by decide) (by decide)
              have h6 : V 6 = .tuple #[.slice none 0 0, .int .i64 30] := hV 6 (by decide) (by decide)
              have h7 : V 7 = .slice none 0 0 := hV 7 (by decide) (by decide)
              obtain ⟨y, h8⟩ : ∃ y, V 8 = y := ⟨_, rfl⟩
              simp [frV, dstOf, Act.put, h0, h1, h2, h3, h4, h5, h6, h7, h8]
              clear h0 h1 h2 h3 h4 h5 h6 h7 h8 hV g hold
              have GR : Hid (W5.grownBy W0 none) := gD
              clear gD
              go_wp2_with fail
              go_meet
              exact ⟨rfl, rfl, GR.out⟩
          case rest =>
            obtain ⟨rfl, rfl, g⟩ := hcut
            clear x0 x1 x2 x3 x4 x5 x6 x7 x8 p0 HEn
            go_wp2
            go_ret
            rw [HNo.out k hkn HI.out]
            exact ⟨rfl, HCH.out.trans (Ch.of (grown_trans HG5.out g)), fun h => by cases h⟩
        · rw [hmt] at HI
          obtain ⟨SS, hSS⟩ : ∃ SS, SS = Ru.encT 1 (Lk.bare v) := ⟨_, rfl⟩
          rw [← hSS] at HSk
          have HEn : Hid (∀ W, W5.grownBy W none → Calls Tryz.prog 60 #[.agg #[.int .i64 v.op, .int .i64 v.a, .int .i64 v.b, .int .i64 v.c, .int .i64 v.k, .int .i64 v.sub, .int .i64 v.scale, .int .i64 v.imm, .int .i64 0]] W fun e w' => ∃ T' c', e = .returned (.tuple #[.slice (some ⟨T', 0, none⟩) SS.length c', .int .i64 0]) ∧ OwnL w' W.heap.size (.slice (some ⟨T', 0, none⟩) SS.length c') SS ∧ W.grownBy w' none) := fun W g => by rw [hSS]; exact enc_r (Lk.bare v) W hrb hmt
          have hSl : SS.length ≤ 33 := by rw [hSS]; exact (Ru.encT_len 1 (Lk.bare v)).2
          clear hSS
          go_cut [7, 8] (fun b e wx => ∃ T' c', b = .slice (some ⟨T', 0, none⟩) SS.length c' ∧ e = .int .i64 0 ∧ W5.grownBy wx none)
          case first =>
            refine region_late 9 8 _ _ _ (psiE [.pointer (some ⟨B, 0, none⟩), .pointer (some ⟨B, 0, none⟩), .pointer (some ⟨B, 0, none⟩), .func (.func 60) #[] #[], .agg #[.int .i64 v.op, .int .i64 v.a, .int .i64 v.b, .int .i64 v.c, .int .i64 v.k, .int .i64 v.sub, .int .i64 v.scale, .int .i64 v.imm, .int .i64 0]] W5.heap.size SS) (by kernel_rfl) (by kernel_rfl) rfl rfl rfl (by kernel_rfl) (by kernel_rfl) (fun i x w0 w1 hi h g => psiE_stable h g) ?_ ?_ ?_
            · simp only [List.take_succ_cons, List.take_zero]
              refine ⟨?_, ?_, ?_, ?_, ?_, ?_, ?_, ?_, ?_, trivial⟩
              · intro V W0 A g hV hs hz
                have gD : W5.grownBy W0 none := grown_trans (grown_drew (World.grownBy.refl _ none)) g
                have e00 := hz 0 (.pointer (some ⟨B, 0, none⟩)) (by kernel_rfl) rfl
                clear hV hs hz
                refine outO_val (v := .pointer (some ⟨B, 0, none⟩)) (w' := W0) ?_ (World.grownBy.refl _ _) (psiE_mk (by simp) rfl)
                simp [go_sem, e00]
              · intro V W0 A g hV hs hz
                have gD : W5.grownBy W0 none := grown_trans (grown_drew (World.grownBy.refl _ none)) g
                have q0 : V 0 = .pointer (some ⟨B, 0, none⟩) := psiE_f (hV 0 (by kernel_rfl)) (by simp)
                have e0 := hs 35 0 (by kernel_rfl) (by kernel_rfl)
                clear hV hs hz
                refine outO_val (v := .pointer (some ⟨B, 0, none⟩)) (w' := W0) ?_ (World.grownBy.refl _ _) (psiE_mk (by simp) rfl)
                simp [go_sem, q0, e0]
              · intro V W0 A g hV hs hz
                have gD : W5.grownBy W0 none := grown_trans (grown_drew (World.grownBy.refl _ none)) g
                have q1 : V 1 = .pointer (some ⟨B, 0, none⟩) := psiE_f (hV 1 (by kernel_rfl)) (by simp)
                have e1 := hs 36 1 (by kernel_rfl) (by kernel_rfl)
                clear hV hs hz
                refine outO_val (v := .pointer (some ⟨B, 0, none⟩)) (w' := W0) ?_ (World.grownBy.refl _ _) (psiE_mk (by simp) rfl)
                simp [go_sem, q1, e1]
              · intro V W0 A g hV hs hz
                have gD : W5.grownBy W0 none := grown_trans (grown_drew (World.grownBy.refl _ none)) g
                have q2 : V 2 = .pointer (some ⟨B, 0, none⟩) := psiE_f (hV 2 (by kernel_rfl)) (by simp)
                have e2 := hs 37 2 (by kernel_rfl) (by kernel_rfl)
                have x0 := gD.cell p0 (by simp)
                clear hV hs hz
                refine outO_val (v := .func (.func 60) #[] #[]) (w' := W0) ?_ (World.grownBy.refl _ _) (psiE_mk (by simp) rfl)
                simp [go_sem, q2, e2, x0]
              · intro V W0 A g hV hs hz
                have gD : W5.grownBy W0 none := grown_trans (grown_drew (World.grownBy.refl _ none)) g
                have e06 := hz 6 (.pointer (some ⟨bx, 0, none⟩)) (by kernel_rfl) rfl
                have x0 := gD.cell x0 (by simp)
                have x1 := gD.cell x1 (by simp)
                have x2 := gD.cell x2 (by simp)
                have x3 := gD.cell x3 (by simp)
                have x4 := gD.cell x4 (by simp)
                have x5 := gD.cell x5 (by simp)
                have x6 := gD.cell x6 (by simp)
                have x7 := gD.cell x7 (by simp)
                have x8 := gD.cell x8 (by simp)
                clear hV hs hz
                refine outO_val (v := .agg #[.int .i64 v.op, .int .i64 v.a, .int .i64 v.b, .int .i64 v.c, .int .i64 v.k, .int .i64 v.sub, .int .i64 v.scale, .int .i64 v.imm, .int .i64 0]) (w' := W0) ?_ (World.grownBy.refl _ _) (psiE_mk (by simp) rfl)
                simp [go_sem, e06, x0, x1, x2, x3, x4, x5, x6, x7, x8]
              · intro V W0 A g hV hs hz
                have gD : W5.grownBy W0 none := grown_trans (grown_drew (World.grownBy.refl _ none)) g
                have q3 : V 3 = .func (.func 60) #[] #[] := psiE_f (hV 3 (by kernel_rfl)) (by simp)
                have e3 := hs 38 3 (by kernel_rfl) (by kernel_rfl)
                have q4 : V 4 = .agg #[.int .i64 v.op, .int .i64 v.a, .int .i64 v.b, .int .i64 v.c, .int .i64 v.k, .int .i64 v.sub, .int .i64 v.scale, .int .i64 v.imm, .int .i64 0] := psiE_f (hV 4 (by kernel_rfl)) (by simp)
                have e4 := hs 39 4 (by kernel_rfl) (by kernel_rfl)
                clear hV hs hz
                refine outO_call (f := 60) ?_ (psi_call (by have := g.size; exact this) (by simp) (by simp) (HEn.out W0 gD))
                simp [go_sem, q3, e3, q4, e4]
              · intro V W0 A g hV hs hz
                obtain ⟨T1, k1, h1, o1⟩ := psiE_t (hV 5 (by kernel_rfl)) (by simp) (by simp)
                have e1 := hs 40 5 (by kernel_rfl) (by kernel_rfl)
                clear hV hs hz
                refine outO_val (v := V 5) (w' := W0) ?_ (World.grownBy.refl _ _) (psiE_mt (by simp) (by simp) ⟨T1, k1, h1, o1⟩)
                simp [go_sem, e1]
              · intro V W0 A g hV hs hz
                obtain ⟨T1, k1, h1, o1⟩ := psiE_t (hV 6 (by kernel_rfl)) (by simp) (by simp)
                have e1 := hs 34 6 (by kernel_rfl) (by kernel_rfl)
                clear hV hs hz
                refine outO_val (v := .slice (some ⟨T1, 0, none⟩) SS.length k1) (w' := W0) ?_ (World.grownBy.refl _ _) (psiE_ms (by simp) ⟨T1, k1, rfl, o1⟩)
                simp [go_sem, e1, h1]
              · intro V W0 A g hV hs hz
                obtain ⟨T1, k1, h1, o1⟩ := psiE_t (hV 6 (by kernel_rfl)) (by simp) (by simp)
                have e1 := hs 34 6 (by kernel_rfl) (by kernel_rfl)
                clear hV hs hz
                refine outO_val (v := .int .i64 0) (w' := W0) ?_ (World.grownBy.refl _ _) (psiE_me (by simp) rfl)
                simp [go_sem, e1, h1]
            · intro V W0 g hV
              have gD : W5.grownBy W0 none := grown_trans (grown_drew (World.grownBy.refl _ none)) g
              have h0 : V 0 = .pointer (some ⟨B, 0, none⟩) := psiE_f (hV 0 (by decide)) (by simp)
              have h1 : V 1 = .pointer (some ⟨B, 0, none⟩) := psiE_f (hV 1 (by decide)) (by simp)
              have h2 : V 2 = .pointer (some ⟨B, 0, none⟩) := psiE_f (hV 2 (by decide)) (by simp)
              have h3 : V 3 = .func (.func 60) #[] #[] := psiE_f (hV 3 (by decide)) (by simp)
              have h4 : V 4 = .agg #[.int .i64 v.op, .int .i64 v.a, .int .i64 v.b, .int .i64 v.c, .int .i64 v.k, .int .i64 v.sub, .int .i64 v.scale, .int .i64 v.imm, .int .i64 0] := psiE_f (hV 4 (by decide)) (by simp)
              obtain ⟨T1, k1, h5, _⟩ := psiE_t (hV 5 (by decide)) (by simp) (by simp)
              obtain ⟨T2, k2, h6, _⟩ := psiE_t (hV 6 (by decide)) (by simp) (by simp)
              obtain ⟨T3, k3, h7, o3⟩ := psiE_s (hV 7 (by decide)) (by simp)
              have h8 := psiE_e (hV 8 (by decide)) (by simp)
              simp [frV, dstOf, Act.put, h0, h1, h2, h3, h4, h5, h6, h7, h8]
              clear h0 h1 h2 h3 h4 h5 h6 h7 h8 hV g
              have GR : Hid (W5.grownBy W0 none) := gD
              have O3 : Hid (OwnL W0 W5.heap.size (.slice (some ⟨T3, 0, none⟩) SS.length k3) SS) := o3
              clear gD o3
              go_wp2_with fail
              go_meet
              exact ⟨T3, k3, rfl, rfl, GR.out⟩
            · intro V W0 g hV hold
              have gD : W5.grownBy W0 none := grown_trans (grown_drew (World.grownBy.refl _ none)) g
              have h0 : V 0 = .pointer (some ⟨B, 0, none⟩) := psiE_f (hV 0 (by decide) (by decide)) (by simp)
              have h1 : V 1 = .pointer (some ⟨B, 0, none⟩) := psiE_f (hV 1 (by decide) (by decide)) (by simp)
              have h2 : V 2 = .pointer (some ⟨B, 0, none⟩) := psiE_f (hV 2 (by decide) (by decide)) (by simp)
              have h3 : V 3 = .func (.func 60) #[] #[] := psiE_f (hV 3 (by decide) (by decide)) (by simp)
              have h4 : V 4 = .agg #[.int .i64 v.op, .int .i64 v.a, .int .i64 v.b, .int .i64 v.c, .int .i64 v.k, .int .i64 v.sub, .int .i64 v.scale, .int .i64 v.imm, .int .i64 0] := psiE_f (hV 4 (by decide) (by decide)) (by simp)
              obtain ⟨T1, k1, h5, _⟩ := psiE_t (hV 5 (by decide) (by decide)) (by simp) (by simp)
              obtain ⟨T2, k2, h6, _⟩ := psiE_t (hV 6 (by decide) (by decide)) (by simp) (by simp)
              obtain ⟨T3, k3, h7, o3⟩ := psiE_s (hV 7 (by decide) (by decide)) (by simp)
              obtain ⟨y, h8⟩ : ∃ y, V 8 = y := ⟨_, rfl⟩
              simp [frV, dstOf, Act.put, h0, h1, h2, h3, h4, h5, h6, h7, h8]
              clear h0 h1 h2 h3 h4 h5 h6 h7 h8 hV g hold
              have GR : Hid (W5.grownBy W0 none) := gD
              have O3 : Hid (OwnL W0 W5.heap.size (.slice (some ⟨T3, 0, none⟩) SS.length k3) SS) := o3
              clear gD o3
              go_wp2_with fail
              go_meet
              exact ⟨T3, k3, rfl, rfl, GR.out⟩
          case rest =>
            obtain ⟨T', c', rfl, rfl, g1⟩ := hcut
            obtain ⟨W6, hwc⟩ : ∃ x, x = wc := ⟨_, rfl⟩
            rw [← hwc] at g1 ⊢
            clear hwc x0 x1 x2 x3 x4 x5 x6 x7 x8 p0 HEn
            have HP6 : Hid (Pt N W6 B 60 P (some ⟨b, off, none⟩) ma ic mc (.slice (some ⟨S0, 0, none⟩) n n)) := HP5.out.grow g1
            have HO6 : Hid (OwnN W6 S0 (.slice (some ⟨S0, 0, none⟩) n n) n (fun i => if i < k then Ss i else 0)) := HOS.out.grow (grown_trans HG5.out g1)
            have HC6 : Hid (Ch w W6 [B]) := HCH.out.trans (Ch.of (grown_trans HG5.out g1))
            have c36 := HP6.out.c3
            have f6 := HO6.out.frozen k
            have k6 := HO6.out.cell hkn
            have HO7 : Hid (OwnN (W6.setCell ⟨S0, k, none⟩ (.int .i64 (SS.length : Int))) S0 (.slice (some ⟨S0, 0, none⟩) n n) n (fun i => if i < k + 1 then Ss i else 0)) := (HO6.out.set hkn _).congr (fun i hi => by
              unfold setF
              by_cases e : i = k
              · subst e; simp [HSk.out]
              · by_cases h2 : i < k
                · simp [e, h2, show i < k + 1 by omega]
                · simp [e, h2, show ¬ i < k + 1 by omega])
            have HC7 : Hid (Ch w (W6.setCell ⟨S0, k, none⟩ (.int .i64 (SS.length : Int))) [B]) := HC6.out.new (b := S0) (by omega) (grown_set _ _ _ _)
            have HP7 : Hid (Pt N (W6.setCell ⟨S0, k, none⟩ (.int .i64 (SS.length : Int))) B 60 P (some ⟨b, off, none⟩) ma ic mc (.slice (some ⟨S0, 0, none⟩) n n)) := HP6.out.ch (l := [S0]) (Ch.one (grown_set _ _ _ _) (by simp)) (by simp; omega) (by simp; omega)
            clear g1
            go_wp2
            go_roundw
            case rel => exact ⟨k + 1, by go_num, by omega, HP7.out, HO7.out, HC7.out, fun i hi => by
              by_cases e : i = k
              · subst e; exact HI.out
              · exact HAL.out i (by omega)⟩
            case measure => simp [intOf]; omega
    · obtain rfl : k = n := by omega
      go_wp2
      go_ret
      have hR := HYes.out HAL.out
      rw [hR]
      exact ⟨rfl, HCH.out, fun _ => ⟨HPt.out, (HOS.out.congr (fun i hi => by simp [hi])).low hNS⟩⟩
set_option maxRecDepth 100000 in
set_option maxHeartbeats 16000000 in
theorem pmeas_c {N : Nat} {w : World} {B : Nat} {P : Lk.PcV} {ia ma : Option Addr} {ic mc : Nat} (p : Int) (h : Pt N w B 61 P ia ma ic mc (.slice none 0 0)) (hTab : TabAt w) (hTN : 2 < N) (hn : (P.n : Int) ≤ 8796093022208) :
    Calls Tryz.prog 40 #[.pointer (some ⟨B, 0, none⟩), .int .i64 p] w fun e w' => e = .returned (.bool (Lk.instsB 2 p P)) ∧ Ch w w' [B] ∧
      (Lk.instsB 2 p P = true → Pt N w' B 61 P ia ma ic mc (.slice (some ⟨w.heap.size, 0, none⟩) P.n P.n) ∧ OwnN w' N (.slice (some ⟨w.heap.size, 0, none⟩) P.n P.n) P.n (P.sh 2).s) := by
  have hNw : N ≤ w.heap.size := by have := h.nb; have := h.lt; omega
  have hBw := h.lt
  have hNB := h.nb
  obtain ⟨w1, hmk, ho1, hg1⟩ := run_make_n w P.n hn
  have f3 : w1.frozen? ⟨B, 3, none⟩ = false := (h.grow hg1).fz 3
  have c1 := h.c1
  have c31 := (h.grow hg1).c3
  have HP0 : Hid (Pt N (w1.setCell ⟨B, 3, none⟩ (.slice (some ⟨w.heap.size, 0, none⟩) P.n P.n)) B 61 P ia ma ic mc (.slice (some ⟨w.heap.size, 0, none⟩) P.n P.n)) := (h.grow hg1).set _
  have c12 := HP0.out.c1
  have HC0 : Hid (Ch w (w1.setCell ⟨B, 3, none⟩ (.slice (some ⟨w.heap.size, 0, none⟩) P.n P.n)) [B]) := (Ch.of hg1).trans (Ch.one (grown_set _ _ _ _) (by simp))
  have HO0 : Hid (OwnN (w1.setCell ⟨B, 3, none⟩ (.slice (some ⟨w.heap.size, 0, none⟩) P.n P.n)) w.heap.size (.slice (some ⟨w.heap.size, 0, none⟩) P.n P.n) P.n (fun _ => 0)) := ho1.kept (grown_set _ _ _ _) (.inr (by simp [Value.ownBlock]; omega))
  have HTb : Hid (TabAt w) := hTab
  have HNo : Hid (∀ i, i < P.n → Lk.instB 2 P.m p (P.I i) = false → Lk.instsB 2 p P = false) := fun i hi hf => Lk.instsB_no hi hf
  have HYes : Hid ((∀ i, i < P.n → Lk.instB 2 P.m p (P.I i) = true) → Lk.instsB 2 p P = true) := Lk.instsB_iff.2
  have HSz : Hid (∀ i, (P.sh 2).s i = ((Ru.encT 2 (Lk.bare (P.I i))).length : Int)) := fun i => rfl
  clear h hTab ho1 hg1
  obtain ⟨R, hR⟩ : ∃ R, R = Lk.instsB 2 p P := ⟨_, rfl⟩
  obtain ⟨Ss, hSs⟩ : ∃ Ss, Ss = (P.sh 2).s := ⟨_, rfl⟩
  rw [← hR] at HNo HYes ⊢
  rw [← hSs] at HSz ⊢
  clear hR hSs
  obtain ⟨n, hnn⟩ : ∃ n, n = P.n := ⟨_, rfl⟩
  rw [← hnn] at hn hmk c1 HP0 c12 HC0 HO0 HNo HYes ⊢
  have HNn : Hid (n = P.n) := hnn
  clear hnn
  obtain ⟨S0, hS0⟩ : ∃ S0, S0 = w.heap.size := ⟨_, rfl⟩
  rw [← hS0] at hmk HP0 c12 HC0 HO0 ⊢
  have hSw : S0 ≤ w.heap.size ∧ w.heap.size ≤ S0 := ⟨Nat.le_of_eq hS0, Nat.le_of_eq hS0.symm⟩
  have hNS : N ≤ S0 := by omega
  have hBS : B ≠ S0 := by omega
  clear hS0
  go_enter Tryz.func40, Tryz.ntmps40
  go_wp2_with fail
  go_loopw [23] (fun i wr => ∃ k : Nat, i = .int .i64 k ∧ k ≤ n ∧ Pt N wr B 61 P ia ma ic mc (.slice (some ⟨S0, 0, none⟩) n n) ∧ OwnN wr S0 (.slice (some ⟨S0, 0, none⟩) n n) n (fun i => if i < k then Ss i else 0) ∧ Ch w wr [B] ∧ (∀ i, i < k → Lk.instB 2 P.m p (P.I i) = true)) (fun i _ => n - (intOf i).toNat)
  case atStart => exact ⟨0, rfl, Nat.zero_le _, HP0.out, HO0.out.congr (fun i _ => by simp), HC0.out, fun i hi => by omega⟩
  case round =>
    obtain ⟨k, rfl, hk, hpt, hoS, hch, hall⟩ := hrel
    have HPt : Hid (Pt N wr B 61 P ia ma ic mc (.slice (some ⟨S0, 0, none⟩) n n)) := hpt
    have HOS : Hid (OwnN wr S0 (.slice (some ⟨S0, 0, none⟩) n n) n (fun i => if i < k then Ss i else 0)) := hoS
    have HCH : Hid (Ch w wr [B]) := hch
    have HAL : Hid (∀ i, i < k → Lk.instB 2 P.m p (P.I i) = true) := hall
    have hSr : S0 < wr.heap.size := hoS.lt S0 rfl
    have hBr : B < wr.heap.size := hpt.lt
    clear hoS hch hall
    by_cases hkn : k < n
    · have hkn' : (k : Int) < n := by omega
      obtain ⟨b, off, rfl, hb, hin, hrng⟩ := hpt.ins.at (i := k) (by rw [← HNn.out]; exact hkn)
      obtain ⟨v, hv⟩ : ∃ v, v = P.I k := ⟨_, rfl⟩
      rw [← hv] at hin hrng
      have HTw : Hid (∀ W, wr.grownBy W none → TabAt W) := fun W g => (HTb.out.ch HCH.out (by simp; omega)).kept g (by simp)
      have HLb : Hid (∀ W, wr.grownBy W none → Calls Tryz.prog 62 #[.pointer (some ⟨B, 0, none⟩), .agg #[.int .i64 v.op, .int .i64 v.a, .int .i64 v.b, .int .i64 v.c, .int .i64 v.k, .int .i64 v.sub, .int .i64 v.scale, .int .i64 v.imm, .int .i64 v.label], .int .i64 p] W fun e w' => e = .returned (.bool (Lk.labB P.m p v)) ∧ W.grownBy w' none) := fun W g => plabel_any (HPt.out.grow g) v p
      have HI : Hid (Lk.instB 2 P.m p (P.I k) = (Lk.labB P.m p v && Ru.mayT 2 (Lk.bare v))) := by rw [hv]; rfl
      have HSk : Hid (Ss k = ((Ru.encT 2 (Lk.bare v)).length : Int)) := by rw [hv]; exact HSz.out k
      have hrb : InRng (Lk.bare v) := ⟨hrng.i1, hrng.i2, hrng.s1, hrng.s2⟩
      obtain ⟨d0, d1, d2, d3, d4, d5, d6, d7, d8⟩ := hin
      have IN := InstAt.new wr v
      have hA := World.grownBy_alloc wr (Obj.cells #[.int .i64 v.op, .int .i64 v.a, .int .i64 v.b, .int .i64 v.c, .int .i64 v.k, .int .i64 v.sub, .int .i64 v.scale, .int .i64 v.imm, .int .i64 v.label] 50) none
      clear hpt hrng hv
      cases hlb : Lk.labB P.m p v
      · rw [hlb] at HLb HI
        go_wp2_with (go_at_call 62; refine (HLb.out _ hA).mono ?_; rintro e w4 ⟨rfl, hg4⟩)
        go_ret
        rw [HNo.out k hkn (by rw [HI.out]; rfl)]
        exact ⟨rfl, HCH.out.trans (Ch.of (grown_trans hA hg4)), fun h => by cases h⟩
      · rw [hlb] at HLb HI
        simp only [Bool.true_and] at HI
        go_wp2_with (go_at_call 62; refine (HLb.out _ hA).mono ?_; rintro e w4 ⟨rfl, hg4⟩; have z8 := (IN.kept hg4 (by simp)).fz 8; have y8 := (IN.kept hg4 (by simp)).c8)
        have IN5 : InstAt (w4.setCell ⟨wr.heap.size, 8, none⟩ (.int .i64 0)) wr.heap.size (Lk.bare v) := (IN.kept hg4 (by simp)).set8 0
        have HG5 : Hid (wr.grownBy (w4.setCell ⟨wr.heap.size, 8, none⟩ (.int .i64 0)) none) := gs (grown_trans hA hg4) _ _ (Nat.le_refl _)
        clear hA hg4 d0 d1 d2 d3 d4 d5 d6 d7 d8 IN z8 y8
        obtain ⟨bx, hbx⟩ : ∃ bx, bx = wr.heap.size := ⟨_, rfl⟩
        rw [← hbx] at IN5 HG5 ⊢
        obtain ⟨W5, hW5⟩ : ∃ W5, W5 = w4.setCell ⟨bx, 8, none⟩ (.int .i64 0) := ⟨_, rfl⟩
        rw [← hW5] at IN5 HG5 ⊢
        clear hW5
        have HP5 : Hid (Pt N W5 B 61 P (some ⟨b, off, none⟩) ma ic mc (.slice (some ⟨S0, 0, none⟩) n n)) := HPt.out.grow HG5.out
        have p0 := HP5.out.c0
        obtain ⟨x0, x1, x2, x3, x4, x5, x6, x7, x8, xz⟩ := IN5
        simp only [Lk.bare] at x0 x1 x2 x3 x4 x5 x6 x7 x8
        clear xz
        cases hmt : Ru.mayT 2 (Lk.bare v)
        · rw [hmt] at HI
          have HEn : Hid (∀ W, W5.grownBy W none → Calls Tryz.prog 61 #[.agg #[.int .i64 v.op, .int .i64 v.a, .int .i64 v.b, .int .i64 v.c, .int .i64 v.k, .int .i64 v.sub, .int .i64 v.scale, .int .i64 v.imm, .int .i64 0]] W fun e w' => e = .returned (.tuple #[.slice none 0 0, .int .i64 40]) ∧ W.grownBy w' none) := fun W g => enc_cn (Lk.bare v) W (HTw.out W (grown_trans HG5.out g)) hrb hmt
          go_cut [7, 8] (fun b e wx => b = .slice none 0 0 ∧ e = .int .i64 40 ∧ W5.grownBy wx none)
          case first =>
            refine region_late 9 8 _ _ _ (psiV [.pointer (some ⟨B, 0, none⟩), .pointer (some ⟨B, 0, none⟩), .pointer (some ⟨B, 0, none⟩), .func (.func 61) #[] #[], .agg #[.int .i64 v.op, .int .i64 v.a, .int .i64 v.b, .int .i64 v.c, .int .i64 v.k, .int .i64 v.sub, .int .i64 v.scale, .int .i64 v.imm, .int .i64 0], .tuple #[.slice none 0 0, .int .i64 40], .tuple #[.slice none 0 0, .int .i64 40], .slice none 0 0, .int .i64 40]) (by kernel_rfl) (by kernel_rfl) rfl rfl rfl (by kernel_rfl) (by kernel_rfl) (fun i x w0 w1 hi h g => h) ?_ ?_ ?_
            · simp only [List.take_succ_cons, List.take_zero]
              refine ⟨?_, ?_, ?_, ?_, ?_, ?_, ?_, ?_, ?_, trivial⟩
              · intro V W0 A g hV hs hz
                have gD : W5.grownBy W0 none := grown_trans (grown_drew (World.grownBy.refl _ none)) g
                have e00 := hz 0 (.pointer (some ⟨B, 0, none⟩)) (by kernel_rfl) rfl
                clear hV hs hz
                refine outO_val (v := .pointer (some ⟨B, 0, none⟩)) (w' := W0) ?_ (World.grownBy.refl _ _) rfl
                simp [go_sem, e00]
              · intro V W0 A g hV hs hz
                have gD : W5.grownBy W0 none := grown_trans (grown_drew (World.grownBy.refl _ none)) g
                have q0 : V 0 = .pointer (some ⟨B, 0, none⟩) := hV 0 (by kernel_rfl)
                have e0 := hs 35 0 (by kernel_rfl) (by kernel_rfl)
                clear hV hs hz
                refine outO_val (v := .pointer (some ⟨B, 0, none⟩)) (w' := W0) ?_ (World.grownBy.refl _ _) rfl
                simp [go_sem, q0, e0]
              · intro V W0 A g hV hs hz
                have gD : W5.grownBy W0 none := grown_trans (grown_drew (World.grownBy.refl _ none)) g
                have q1 : V 1 = .pointer (some ⟨B, 0, none⟩) := hV 1 (by kernel_rfl)
                have e1 := hs 36 1 (by kernel_rfl) (by kernel_rfl)
                clear hV hs hz
                refine outO_val (v := .pointer (some ⟨B, 0, none⟩)) (w' := W0) ?_ (World.grownBy.refl _ _) rfl
                simp [go_sem, q1, e1]
              · intro V W0 A g hV hs hz
                have gD : W5.grownBy W0 none := grown_trans (grown_drew (World.grownBy.refl _ none)) g
                have q2 : V 2 = .pointer (some ⟨B, 0, none⟩) := hV 2 (by kernel_rfl)
                have e2 := hs 37 2 (by kernel_rfl) (by kernel_rfl)
                have x0 := gD.cell p0 (by simp)
                clear hV hs hz
                refine outO_val (v := .func (.func 61) #[] #[]) (w' := W0) ?_ (World.grownBy.refl _ _) rfl
                simp [go_sem, q2, e2, x0]
              · intro V W0 A g hV hs hz
                have gD : W5.grownBy W0 none := grown_trans (grown_drew (World.grownBy.refl _ none)) g
                have e06 := hz 6 (.pointer (some ⟨bx, 0, none⟩)) (by kernel_rfl) rfl
                have x0 := gD.cell x0 (by simp)
                have x1 := gD.cell x1 (by simp)
                have x2 := gD.cell x2 (by simp)
                have x3 := gD.cell x3 (by simp)
                have x4 := gD.cell x4 (by simp)
                have x5 := gD.cell x5 (by simp)
                have x6 := gD.cell x6 (by simp)
                have x7 := gD.cell x7 (by simp)
                have x8 := gD.cell x8 (by simp)
                clear hV hs hz
                refine outO_val (v := .agg #[.int .i64 v.op, .int .i64 v.a, .int .i64 v.b, .int .i64 v.c, .int .i64 v.k, .int .i64 v.sub, .int .i64 v.scale, .int .i64 v.imm, .int .i64 0]) (w' := W0) ?_ (World.grownBy.refl _ _) rfl
                simp [go_sem, e06, x0, x1, x2, x3, x4, x5, x6, x7, x8]
              · intro V W0 A g hV hs hz
                have gD : W5.grownBy W0 none := grown_trans (grown_drew (World.grownBy.refl _ none)) g
                have q3 : V 3 = .func (.func 61) #[] #[] := hV 3 (by kernel_rfl)
                have e3 := hs 38 3 (by kernel_rfl) (by kernel_rfl)
                have q4 : V 4 = .agg #[.int .i64 v.op, .int .i64 v.a, .int .i64 v.b, .int .i64 v.c, .int .i64 v.k, .int .i64 v.sub, .int .i64 v.scale, .int .i64 v.imm, .int .i64 0] := hV 4 (by kernel_rfl)
                have e4 := hs 39 4 (by kernel_rfl) (by kernel_rfl)
                clear hV hs hz
                refine outO_call (f := 61) ?_ ((HEn.out W0 gD).mono fun e w2 ⟨he, hg⟩ => ⟨_, he, hg, rfl⟩)
                simp [go_sem, q3, e3, q4, e4]
              · intro V W0 A g hV hs hz
                have gD : W5.grownBy W0 none := grown_trans (grown_drew (World.grownBy.refl _ none)) g
                have q5 : V 5 = .tuple #[.slice none 0 0, .int .i64 40] := hV 5 (by kernel_rfl)
                have e5 := hs 40 5 (by kernel_rfl) (by kernel_rfl)
                clear hV hs hz
                refine outO_val (v := .tuple #[.slice none 0 0, .int .i64 40]) (w' := W0) ?_ (World.grownBy.refl _ _) rfl
                simp [go_sem, q5, e5]
              · intro V W0 A g hV hs hz
                have gD : W5.grownBy W0 none := grown_trans (grown_drew (World.grownBy.refl _ none)) g
                have q6 : V 6 = .tuple #[.slice none 0 0, .int .i64 40] := hV 6 (by kernel_rfl)
                have e6 := hs 34 6 (by kernel_rfl) (by kernel_rfl)
                clear hV hs hz
                refine outO_val (v := .slice none 0 0) (w' := W0) ?_ (World.grownBy.refl _ _) rfl
                simp [go_sem, q6, e6]
              · intro V W0 A g hV hs hz
                have gD : W5.grownBy W0 none := grown_trans (grown_drew (World.grownBy.refl _ none)) g
                have q6 : V 6 = .tuple #[.slice none 0 0, .int .i64 40] := hV 6 (by kernel_rfl)
                have e6 := hs 34 6 (by kernel_rfl) (by kernel_rfl)
                clear hV hs hz
                refine outO_val (v := .int .i64 40) (w' := W0) ?_ (World.grownBy.refl _ _) rfl
                simp [go_sem, q6, e6]
            · intro V W0 g hV
              have gD : W5.grownBy W0 none := grown_trans (grown_drew (World.grownBy.refl _ none)) g
              have h0 : V 0 = .pointer (some ⟨B, 0, none⟩) := hV 0 (by decide)
              have h1 : V 1 = .pointer (some ⟨B, 0, none⟩) := hV 1 (by decide)
              have h2 : V 2 = .pointer (some ⟨B, 0, none⟩) := hV 2 (by decide)
              have h3 : V 3 = .func (.func 61) #[] #[] := hV 3 (by decide)
              have h4 : V 4 = .agg #[.int .i64 v.op, .int .i64 v.a, .int .i64 v.b, .int .i64 v.c, .int .i64 v.k, .int .i64 v.sub, .int .i64 v.scale, .int .i64 v.imm, .int .i64 0] := hV 4 (by decide)
              have h5 : V 5 = .tuple #[.slice none 0 0, .int .i64 40] := hV 5 (by decide)
              have h6 : V 6 = .tuple #[.slice none 0 0, .int .i64 40] := hV 6 (by decide)
              have h7 : V 7 = .slice none 0 0 := hV 7 (by decide)
              have h8 : V 8 = .int .i64 40 := hV 8 (by decide)
              simp [frV, dstOf, Act.put, h0, h1, h2, h3, h4, h5, h6, h7, h8]
              clear h0 h1 h2 h3 h4 h5 h6 h7 h8 hV g
              have GR : Hid (W5.grownBy W0 none) := gD
              clear gD
              go_wp2_with fail
              go_meet
              exact ⟨rfl, rfl, GR.out⟩
            · intro V W0 g hV hold
              have gD : W5.grownBy W0 none := grown_trans (grown_drew (World.grownBy.refl _ none)) g
              have h0 : V 0 = .pointer (some ⟨B, 0, none⟩) := hV 0 (by decide) (by decide)
              have h1 : V 1 = .pointer (some ⟨B, 0, none⟩) := hV 1 (by decide) (by decide)
              have h2 : V 2 = .pointer (some ⟨B, 0, none⟩) := hV 2 (by decide) (by decide)
              have h3 : V 3 = .func (.func 61) #[] #[] := hV 3 (by decide) (by decide)
              have h4 : V 4 = .agg #[.int .i64 v.op, .int .i64 v.a, .int .i64 v.b, .int .i64 v.c, .int .i64 v.k, .int .i64 v.sub, .int .i64 v.scale, .int .i64 v.imm, .int .i64 0] := hV 4 (by decide) (by decide)
              have h5 : V 5 = .tuple #[.slice none 0 0, .int .i64 40] := hV 5 (by decide) (by decide)
              have h6 : V 6 = .tuple #[.slice none 0 0, .int .i64 40] := hV 6 (by decide) (by decide)
              have h7 : V 7 = .slice none 0 0 := hV 7 (by decide) (by decide)
              obtain ⟨y, h8⟩ : ∃ y, V 8 = y := ⟨_, rfl⟩
              simp [frV, dstOf, Act.put, h0, h1, h2, h3, h4, h5, h6, h7, h8]
              clear h0 h1 h2 h3 h4 h5 h6 h7 h8 hV g hold
              have GR : Hid (W5.grownBy W0 none) := gD
              clear gD
              go_wp2_with fail
              go_meet
              exact ⟨rfl, rfl, GR.out⟩
          case rest =>
            obtain ⟨rfl, rfl, g⟩ := hcut
            clear x0 x1 x2 x3 x4 x5 x6 x7 x8 p0 HEn
            go_wp2
            go_ret
            rw [HNo.out k hkn HI.out]
            exact ⟨rfl, HCH.out.trans (Ch.of (grown_trans HG5.out g)), fun h => by cases h⟩
        · rw [hmt] at HI
          obtain ⟨SS, hSS⟩ : ∃ SS, SS = Ru.encT 2 (Lk.bare v) := ⟨_, rfl⟩
          rw [← hSS] at HSk
          have HEn : Hid (∀ W, W5.grownBy W none → Calls Tryz.prog 61 #[.agg #[.int .i64 v.op, .int .i64 v.a, .int .i64 v.b, .int .i64 v.c, .int .i64 v.k, .int .i64 v.sub, .int .i64 v.scale, .int .i64 v.imm, .int .i64 0]] W fun e w' => ∃ T' c', e = .returned (.tuple #[.slice (some ⟨T', 0, none⟩) SS.length c', .int .i64 0]) ∧ OwnL w' W.heap.size (.slice (some ⟨T', 0, none⟩) SS.length c') SS ∧ W.grownBy w' none) := fun W g => by rw [hSS]; exact enc_c (Lk.bare v) W (HTw.out W (grown_trans HG5.out g)) hrb hmt
          have hSl : SS.length ≤ 33 := by rw [hSS]; exact (Ru.encT_len 2 (Lk.bare v)).2
          clear hSS
          go_cut [7, 8] (fun b e wx => ∃ T' c', b = .slice (some ⟨T', 0, none⟩) SS.length c' ∧ e = .int .i64 0 ∧ W5.grownBy wx none)
          case first =>
            refine region_late 9 8 _ _ _ (psiE [.pointer (some ⟨B, 0, none⟩), .pointer (some ⟨B, 0, none⟩), .pointer (some ⟨B, 0, none⟩), .func (.func 61) #[] #[], .agg #[.int .i64 v.op, .int .i64 v.a, .int .i64 v.b, .int .i64 v.c, .int .i64 v.k, .int .i64 v.sub, .int .i64 v.scale, .int .i64 v.imm, .int .i64 0]] W5.heap.size SS) (by kernel_rfl) (by kernel_rfl) rfl rfl rfl (by kernel_rfl) (by kernel_rfl) (fun i x w0 w1 hi h g => psiE_stable h g) ?_ ?_ ?_
            · simp only [List.take_succ_cons, List.take_zero]
              refine ⟨?_, ?_, ?_, ?_, ?_, ?_, ?_, ?_, ?_, trivial⟩
              · intro V W0 A g hV hs hz
                have gD : W5.grownBy W0 none := grown_trans (grown_drew (World.grownBy.refl _ none)) g
                have e00 := hz 0 (.pointer (some ⟨B, 0, none⟩)) (by kernel_rfl) rfl
                clear hV hs hz
                refine outO_val (v := .pointer (some ⟨B, 0, none⟩)) (w' := W0) ?_ (World.grownBy.refl _ _) (psiE_mk (by simp) rfl)
                simp [go_sem, e00]
              · intro V W0 A g hV hs hz
                have gD : W5.grownBy W0 none := grown_trans (grown_drew (World.grownBy.refl _ none)) g
                have q0 : V 0 = .pointer (some ⟨B, 0, none⟩) := psiE_f (hV 0 (by kernel_rfl)) (by simp)
                have e0 := hs 35 0 (by kernel_rfl) (by kernel_rfl)
                clear hV hs hz
                refine outO_val (v := .pointer (some ⟨B, 0, none⟩)) (w' := W0) ?_ (World.grownBy.refl _ _) (psiE_mk (by simp) rfl)
                simp [go_sem, q0, e0]
              · intro V W0 A g hV hs hz
                have gD : W5.grownBy W0 none := grown_trans (grown_drew (World.grownBy.refl _ none)) g
                have q1 : V 1 = .pointer (some ⟨B, 0, none⟩) := psiE_f (hV 1 (by kernel_rfl)) (by simp)
                have e1 := hs 36 1 (by kernel_rfl) (by kernel_rfl)
                clear hV hs hz
                refine outO_val (v := .pointer (some ⟨B, 0, none⟩)) (w' := W0) ?_ (World.grownBy.refl _ _) (psiE_mk (by simp) rfl)
                simp [go_sem, q1, e1]
              · intro V W0 A g hV hs hz
                have gD : W5.grownBy W0 none := grown_trans (grown_drew (World.grownBy.refl _ none)) g
                have q2 : V 2 = .pointer (some ⟨B, 0, none⟩) := psiE_f (hV 2 (by kernel_rfl)) (by simp)
                have e2 := hs 37 2 (by kernel_rfl) (by kernel_rfl)
                have x0 := gD.cell p0 (by simp)
                clear hV hs hz
                refine outO_val (v := .func (.func 61) #[] #[]) (w' := W0) ?_ (World.grownBy.refl _ _) (psiE_mk (by simp) rfl)
                simp [go_sem, q2, e2, x0]
              · intro V W0 A g hV hs hz
                have gD : W5.grownBy W0 none := grown_trans (grown_drew (World.grownBy.refl _ none)) g
                have e06 := hz 6 (.pointer (some ⟨bx, 0, none⟩)) (by kernel_rfl) rfl
                have x0 := gD.cell x0 (by simp)
                have x1 := gD.cell x1 (by simp)
                have x2 := gD.cell x2 (by simp)
                have x3 := gD.cell x3 (by simp)
                have x4 := gD.cell x4 (by simp)
                have x5 := gD.cell x5 (by simp)
                have x6 := gD.cell x6 (by simp)
                have x7 := gD.cell x7 (by simp)
                have x8 := gD.cell x8 (by simp)
                clear hV hs hz
                refine outO_val (v := .agg #[.int .i64 v.op, .int .i64 v.a, .int .i64 v.b, .int .i64 v.c, .int .i64 v.k, .int .i64 v.sub, .int .i64 v.scale, .int .i64 v.imm, .int .i64 0]) (w' := W0) ?_ (World.grownBy.refl _ _) (psiE_mk (by simp) rfl)
                simp [go_sem, e06, x0, x1, x2, x3, x4, x5, x6, x7, x8]
              · intro V W0 A g hV hs hz
                have gD : W5.grownBy W0 none := grown_trans (grown_drew (World.grownBy.refl _ none)) g
                have q3 : V 3 = .func (.func 61) #[] #[] := psiE_f (hV 3 (by kernel_rfl)) (by simp)
                have e3 := hs 38 3 (by kernel_rfl) (by kernel_rfl)
                have q4 : V 4 = .agg #[.int .i64 v.op, .int .i64 v.a, .int .i64 v.b, .int .i64 v.c, .int .i64 v.k, .int .i64 v.sub, .int .i64 v.scale, .int .i64 v.imm, .int .i64 0] := psiE_f (hV 4 (by kernel_rfl)) (by simp)
                have e4 := hs 39 4 (by kernel_rfl) (by kernel_rfl)
                clear hV hs hz
                refine outO_call (f := 61) ?_ (psi_call (by have := g.size; exact this) (by simp) (by simp) (HEn.out W0 gD))
                simp [go_sem, q3, e3, q4, e4]
              · intro V W0 A g hV hs hz
                obtain ⟨T1, k1, h1, o1⟩ := psiE_t (hV 5 (by kernel_rfl)) (by simp) (by simp)
                have e1 := hs 40 5 (by kernel_rfl) (by kernel_rfl)
                clear hV hs hz
                refine outO_val (v := V 5) (w' := W0) ?_ (World.grownBy.refl _ _) (psiE_mt (by simp) (by simp) ⟨T1, k1, h1, o1⟩)
                simp [go_sem, e1]
              · intro V W0 A g hV hs hz
                obtain ⟨T1, k1, h1, o1⟩ := psiE_t (hV 6 (by kernel_rfl)) (by simp) (by simp)
                have e1 := hs 34 6 (by kernel_rfl) (by kernel_rfl)
                clear hV hs hz
                refine outO_val (v := .slice (some ⟨T1, 0, none⟩) SS.length k1) (w' := W0) ?_ (World.grownBy.refl _ _) (psiE_ms (by simp) ⟨T1, k1, rfl, o1⟩)
                simp [go_sem, e1, h1]
              · intro V W0 A g hV hs hz
                obtain ⟨T1, k1, h1, o1⟩ := psiE_t (hV 6 (by kernel_rfl)) (by simp) (by simp)
                have e1 := hs 34 6 (by kernel_rfl) (by kernel_rfl)
                clear hV hs hz
                refine outO_val (v := .int .i64 0) (w' := W0) ?_ (World.grownBy.refl _ _) (psiE_me (by simp) rfl)
                simp [go_sem, e1, h1]
            · intro V W0 g hV
              have gD : W5.grownBy W0 none := grown_trans (grown_drew (World.grownBy.refl _ none)) g
              have h0 : V 0 = .pointer (some ⟨B, 0, none⟩) := psiE_f (hV 0 (by decide)) (by simp)
              have h1 : V 1 = .pointer (some ⟨B, 0, none⟩) := psiE_f (hV 1 (by decide)) (by simp)
              have h2 : V 2 = .pointer (some ⟨B, 0, none⟩) := psiE_f (hV 2 (by decide)) (by simp)
              have h3 : V 3 = .func (.func 61) #[] #[] := psiE_f (hV 3 (by decide)) (by simp)
              have h4 : V 4 = .agg #[.int .i64 v.op, .int .i64 v.a, .int .i64 v.b, .int .i64 v.c, .int .i64 v.k, .int .i64 v.sub, .int .i64 v.scale, .int .i64 v.imm, .int .i64 0] := psiE_f (hV 4 (by decide)) (by simp)
              obtain ⟨T1, k1, h5, _⟩ := psiE_t (hV 5 (by decide)) (by simp) (by simp)
              obtain ⟨T2, k2, h6, _⟩ := psiE_t (hV 6 (by decide)) (by simp) (by simp)
              obtain ⟨T3, k3, h7, o3⟩ := psiE_s (hV 7 (by decide)) (by simp)
              have h8 := psiE_e (hV 8 (by decide)) (by simp)
              simp [frV, dstOf, Act.put, h0, h1, h2, h3, h4, h5, h6, h7, h8]
              clear h0 h1 h2 h3 h4 h5 h6 h7 h8 hV g
              have GR : Hid (W5.grownBy W0 none) := gD
              have O3 : Hid (OwnL W0 W5.heap.size (.slice (some ⟨T3, 0, none⟩) SS.length k3) SS) := o3
              clear gD o3
              go_wp2_with fail
              go_meet
              exact ⟨T3, k3, rfl, rfl, GR.out⟩
            · intro V W0 g hV hold
              have gD : W5.grownBy W0 none := grown_trans (grown_drew (World.grownBy.refl _ none)) g
              have h0 : V 0 = .pointer (some ⟨B, 0, none⟩) := psiE_f (hV 0 (by decide) (by decide)) (by simp)
              have h1 : V 1 = .pointer (some ⟨B, 0, none⟩) := psiE_f (hV 1 (by decide) (by decide)) (by simp)
              have h2 : V 2 = .pointer (some ⟨B, 0, none⟩) := psiE_f (hV 2 (by decide) (by decide)) (by simp)
              have h3 : V 3 = .func (.func 61) #[] #[] := psiE_f (hV 3 (by decide) (by decide)) (by simp)
              have h4 : V 4 = .agg #[.int .i64 v.op, .int .i64 v.a, .int .i64 v.b, .int .i64 v.c, .int .i64 v.k, .int .i64 v.sub, .int .i64 v.scale, .int .i64 v.imm, .int .i64 0] := psiE_f (hV 4 (by decide) (by decide)) (by simp)
              obtain ⟨T1, k1, h5, _⟩ := psiE_t (hV 5 (by decide) (by decide)) (by simp) (by simp)
              obtain ⟨T2, k2, h6, _⟩ := psiE_t (hV 6 (by decide) (by decide)) (by simp) (by simp)
              obtain ⟨T3, k3, h7, o3⟩ := psiE_s (hV 7 (by decide) (by decide)) (by simp)
              obtain ⟨y, h8⟩ : ∃ y, V 8 = y := ⟨_, rfl⟩
              simp [frV, dstOf, Act.put, h0, h1, h2, h3, h4, h5, h6, h7, h8]
              clear h0 h1 h2 h3 h4 h5 h6 h7 h8 hV g hold
              have GR : Hid (W5.grownBy W0 none) := gD
              have O3 : Hid (OwnL W0 W5.heap.size (.slice (some ⟨T3, 0, none⟩) SS.length k3) SS) := o3
              clear gD o3
              go_wp2_with fail
              go_meet
              exact ⟨T3, k3, rfl, rfl, GR.out⟩
          case rest =>
            obtain ⟨T', c', rfl, rfl, g1⟩ := hcut
            obtain ⟨W6, hwc⟩ : ∃ x, x = wc := ⟨_, rfl⟩
            rw [← hwc] at g1 ⊢
            clear hwc x0 x1 x2 x3 x4 x5 x6 x7 x8 p0 HEn
            have HP6 : Hid (Pt N W6 B 61 P (some ⟨b, off, none⟩) ma ic mc (.slice (some ⟨S0, 0, none⟩) n n)) := HP5.out.grow g1
            have HO6 : Hid (OwnN W6 S0 (.slice (some ⟨S0, 0, none⟩) n n) n (fun i => if i < k then Ss i else 0)) := HOS.out.grow (grown_trans HG5.out g1)
            have HC6 : Hid (Ch w W6 [B]) := HCH.out.trans (Ch.of (grown_trans HG5.out g1))
            have c36 := HP6.out.c3
            have f6 := HO6.out.frozen k
            have k6 := HO6.out.cell hkn
            have HO7 : Hid (OwnN (W6.setCell ⟨S0, k, none⟩ (.int .i64 (SS.length : Int))) S0 (.slice (some ⟨S0, 0, none⟩) n n) n (fun i => if i < k + 1 then Ss i else 0)) := (HO6.out.set hkn _).congr (fun i hi => by
              unfold setF
              by_cases e : i = k
              · subst e; simp [HSk.out]
              · by_cases h2 : i < k
                · simp [e, h2, show i < k + 1 by omega]
                · simp [e, h2, show ¬ i < k + 1 by omega])
            have HC7 : Hid (Ch w (W6.setCell ⟨S0, k, none⟩ (.int .i64 (SS.length : Int))) [B]) := HC6.out.new (b := S0) (by omega) (grown_set _ _ _ _)
            have HP7 : Hid (Pt N (W6.setCell ⟨S0, k, none⟩ (.int .i64 (SS.length : Int))) B 61 P (some ⟨b, off, none⟩) ma ic mc (.slice (some ⟨S0, 0, none⟩) n n)) := HP6.out.ch (l := [S0]) (Ch.one (grown_set _ _ _ _) (by simp)) (by simp; omega) (by simp; omega)
            clear g1
            go_wp2
            go_roundw
            case rel => exact ⟨k + 1, by go_num, by omega, HP7.out, HO7.out, HC7.out, fun i hi => by
              by_cases e : i = k
              · subst e; exact HI.out
              · exact HAL.out i (by omega)⟩
            case measure => simp [intOf]; omega
    · obtain rfl : k = n := by omega
      go_wp2
      go_ret
      have hR := HYes.out HAL.out
      rw [hR]
      exact ⟨rfl, HCH.out, fun _ => ⟨HPt.out, (HOS.out.congr (fun i hi => by simp [hi])).low hNS⟩⟩
end Go.Proofs.YtkiockffejlnhaaGreatDoor

/- link's take: parts of pieces, or that these may not be. -/
namespace Go.Proofs.YtkiockffejlnhaaGreatDoor
open Go.RowKit
set_option linter.unusedVariables false
structure PcA where
  ia : Option Addr
  ic : Nat
  ma : Option Addr
  mc : Nat
  out : Int
structure PcAt (N : Nat) (w : World) (b o : Nat) (P : Lk.PcV) (A : PcA) : Prop where
  c0 : w.cell? ⟨b, o, none⟩ = some (.slice A.ia P.n A.ic)
  c1 : w.cell? ⟨b, o + 1, none⟩ = some (.slice A.ma P.m A.mc)
  c2 : w.cell? ⟨b, o + 2, none⟩ = some (.int .i64 A.out)
  ins : InsIn N w A.ia P.n A.ic P.I
  mks : NumIn N w A.ma P.m A.mc P.M
theorem PcAt.ch {N : Nat} {w w' : World} {b o : Nat} {P : Lk.PcV} {A : PcA} {l : List Nat} (h : PcAt N w b o P A) (hg : Ch w w' l) (hl : ∀ k, k ∈ l → N ≤ k) (hb : b < N) : PcAt N w' b o P A :=
  have hn : b ∉ l := fun hm => by have := hl b hm; omega
  ⟨hg.cell h.c0 hn, hg.cell h.c1 hn, hg.cell h.c2 hn, h.ins.ch hg hl, h.mks.ch hg hl⟩
structure PcsIn (N : Nat) (w : World) (a : Option Addr) (K c : Nat) (V : Nat → Lk.PcV) (A : Nat → PcA) : Prop where
  le : K ≤ c
  max : c ≤ maxLen
  lie : K = 0 ∨ ∃ b off, a = some ⟨b, off, none⟩ ∧ b < N ∧ ∀ k, k < K → PcAt N w b (off + k * 3) (V k) (A k)
theorem PcsIn.ch {N : Nat} {w w' : World} {a : Option Addr} {K c : Nat} {V : Nat → Lk.PcV} {A : Nat → PcA} {l : List Nat} (h : PcsIn N w a K c V A) (hg : Ch w w' l) (hl : ∀ k, k ∈ l → N ≤ k) : PcsIn N w' a K c V A :=
  ⟨h.le, h.max, by
    rcases h.lie with h0 | ⟨b, off, e, hb, hi⟩
    · exact .inl h0
    · exact .inr ⟨b, off, e, hb, fun i hi' => (hi i hi').ch hg hl hb⟩⟩
theorem PcsIn.at {N : Nat} {w : World} {a : Option Addr} {K c : Nat} {V : Nat → Lk.PcV} {A : Nat → PcA} (h : PcsIn N w a K c V A) {k : Nat} (hk : k < K) : ∃ b off, a = some ⟨b, off, none⟩ ∧ b < N ∧ PcAt N w b (off + k * 3) (V k) (A k) := by
  rcases h.lie with h0 | ⟨b, off, e, hb, hh⟩
  · omega
  · exact ⟨b, off, e, hb, hh k hk⟩
namespace Lk
def piecesB (t : Int) (K : Nat) (V : Nat → PcV) : Bool := (List.range K).all fun k => marksB (V k) && instsB t K (V k)
theorem piecesB_iff {t : Int} {K : Nat} {V : Nat → PcV} : piecesB t K V = true ↔ ∀ k, k < K → marksB (V k) = true ∧ instsB t K (V k) = true := by unfold piecesB; simp
theorem piecesB_no {t : Int} {K : Nat} {V : Nat → PcV} {k : Nat} (hk : k < K) (h : (marksB (V k) && instsB t K (V k)) = false) : piecesB t K V = false := by
  cases hb : piecesB t K V
  · rfl
  · have := piecesB_iff.1 hb k hk
    rw [this.1, this.2] at h
    cases h
theorem PcV.ok_of {t p : Int} {P : PcV} (h1 : marksB P = true) (h2 : instsB t p P = true) : P.Ok t p := ⟨marksB_iff.1 h1, instsB_iff.1 h2⟩
end Lk
theorem info_pp : (Tryz.prog.info? 59).map (fun i => (i.zero, i.size, i.bytes)) = some (some (.pointer none), 1, 8) := by kernel_rfl
theorem wp_appP {ops : Array Oper} {rest : List Oper} {o : Oper} {a : Act} {Q : Exit → Act → World → Prop} {W : World} (hgd : o.guard = none) (s x : Operand)
    (ho : o.op = .call { callee := .builtin .append, args := #[s, x], argTypes := #[56, 56] }) (base K : Nat) (v : Value) (f : Nat → Nat) (B : Nat) (hs : a.eval s = v) (hown : W.ownsRow base 59 1 v K ((List.range K).map fun k => Value.pointer (some ⟨f k, 0, none⟩)))
    (hx : a.eval x = .slice (some ⟨W.heap.size, 0, none⟩) 1 1) (hl : K ≤ 100) (hb : base ≤ W.heap.size) (hf : f K = B)
    (h : ∀ v' w', w'.ownsRow base 59 1 v' (K + 1) ((List.range (K + 1)).map fun k => Value.pointer (some ⟨f k, 0, none⟩)) → W.grownBy w' v.ownBlock → wpList Tryz.prog ops Q rest (a.put o.dst v') w') : wpList Tryz.prog ops Q (o :: rest) a (W.alloc (Obj.cells #[.pointer (some ⟨B, 0, none⟩)] 59)) := by
  obtain ⟨i, hi, hz0, hz1, hz2⟩ := info_parts info_pp
  refine wpList_append_own _ hgd s x 56 ho base 59 i (.pointer none) 1 8 Tryz.underlying56 hi hz0 hz1 hz2 rfl (by decide) v K _ hs (World.ownsRow.alloc hown _) ⟨W.heap.size, 0, none⟩ 1 1 [.pointer (some ⟨B, 0, none⟩)] hx rfl
    (by intro j u hj; match j, hj with | 0, hj => simp at hj; subst hj; simp [Addr.add]) (by simp; rfl) (by unfold maxLen; omega) (by omega) (by simp; omega) ?_
  intro v' w2 ho2 hg2 _
  refine h v' w2 ?_ (grown_trans (grown_noneR _ (World.grownBy_alloc _ _ _)) hg2)
  rw [List.range_succ, List.map_append]
  subst hf
  exact ho2
theorem Rw.app {N : Nat} {w w' : World} {rv rv' : Value} {K fe : Nat} {V : Nat → Lk.PcV} {A : Nat → PtA} {S : Nat → Nat → Int} (h : Rw N w rv K fe V A S) {n : PtA} (hp : Pt N w n.B fe (V K) n.ia n.ma n.ic n.mc (.slice (some ⟨n.T, 0, none⟩) (V K).n (V K).n)) (hs : OwnN w N (.slice (some ⟨n.T, 0, none⟩) (V K).n (V K).n) (V K).n (S K)) (hd : ∀ j, j < K → (A j).T ≠ n.T)
    (ho : w'.ownsRow N 59 1 rv' (K + 1) ((List.range (K + 1)).map fun k => Value.pointer (some ⟨(if k < K then A k else n).B, 0, none⟩))) (hg : w.grownBy w' rv.ownBlock) : Rw N w' rv' (K + 1) fe V (fun k => if k < K then A k else n) S := by
  have hrow : ∀ g, rv.ownBlock = some g → N ≤ g ∧ ∃ cur, w.heap[g]? = some (.cells cur 59 (0, 0)) := fun g hgb => by
    rcases h.own.2 with ⟨e, _⟩ | ⟨g', c, cur, e, e1, e2, _⟩
    · rw [e] at hgb; cases hgb
    · rw [e] at hgb
      simp [Value.ownBlock] at hgb
      subst hgb
      exact ⟨e1, cur, e2⟩
  obtain ⟨l, hl, hln⟩ : ∃ l : List Nat, Ch w w' l ∧ ∀ k, k ∈ l → rv.ownBlock = some k := by
    cases hb : rv.ownBlock with
    | none => exact ⟨[], Ch.of (by rw [hb] at hg; exact hg), by simp⟩
    | some b => exact ⟨[b], Ch.one (by rw [hb] at hg; exact hg) (by simp), by simp⟩
  have hlN : ∀ k, k ∈ l → N ≤ k := fun k hk => (hrow k (hln k hk)).1
  have hBl : ∀ {B : Nat} {P : Lk.PcV} {ia ma : Option Addr} {ic mc : Nat} {sv : Value}, Pt N w B fe P ia ma ic mc sv → B ∉ l := fun hpt hm => by
    obtain ⟨_, cur, e⟩ := hrow _ (hln _ hm)
    have := hpt.blk
    rw [e] at this
    simp at this
  have hTl : ∀ {T m : Nat} {g : Nat → Int}, OwnN w N (.slice (some ⟨T, 0, none⟩) m m) m g → T ∉ l := fun hoo hm => by
    obtain ⟨_, cur, e⟩ := hrow _ (hln _ hm)
    rcases hoo.2 with ⟨e1, _⟩ | ⟨g', c, cur', e1, _, e2, _⟩
    · cases e1
    · simp at e1
      obtain ⟨rfl, _⟩ := e1
      rw [e] at e2
      simp at e2
  refine ⟨ho, fun k hk => ?_, fun k hk => ?_, fun j k hj hk hjk => ?_⟩
  · by_cases hkK : k < K
    · simp only [hkK, if_true]
      exact (h.pt k hkK).ch hl hlN (hBl (h.pt k hkK))
    · obtain rfl : k = K := by omega
      simp only [Nat.lt_irrefl, if_false]
      exact hp.ch hl hlN (hBl hp)
  · by_cases hkK : k < K
    · simp only [hkK, if_true]
      exact (h.sz k hkK).ch hl (fun b hb => by simp [Value.ownBlock] at hb; subst hb; exact hTl (h.sz k hkK))
    · obtain rfl : k = K := by omega
      simp only [Nat.lt_irrefl, if_false]
      exact hs.ch hl (fun b hb => by simp [Value.ownBlock] at hb; subst hb; exact hTl hs)
  · by_cases h1 : j < K <;> by_cases h2 : k < K
    · simp only [h1, h2, if_true]; exact h.dis j k h1 h2 hjk
    · simp only [h1, h2, if_true, if_false]; exact hd j h1
    · simp only [h1, h2, if_true, if_false]; exact fun e => hd k h2 e.symm
    · omega
theorem Rw.nil (N : Nat) (w : World) (fe : Nat) (V : Nat → Lk.PcV) (A : Nat → PtA) (S : Nat → Nat → Int) : Rw N w (.slice none 0 0) 0 fe V A S := ⟨World.ownsRow_nil _ _ _ _, fun k hk => by omega, fun k hk => by omega, fun j k hj => by omega⟩
theorem own_if {N : Nat} {w : World} {rv : Value} {K : Nat} {A : Nat → PtA} (h : w.ownsRow N 59 1 rv K ((List.range K).map fun k => Value.pointer (some ⟨(A k).B, 0, none⟩))) (n : PtA) : w.ownsRow N 59 1 rv K ((List.range K).map fun k => Value.pointer (some ⟨(if k < K then A k else n).B, 0, none⟩)) := by
  rw [show (List.range K).map (fun k => Value.pointer (some ⟨(if k < K then A k else n).B, 0, none⟩)) = (List.range K).map (fun k => Value.pointer (some ⟨(A k).B, 0, none⟩)) from List.map_congr_left fun k hk => by rw [if_pos (List.mem_range.1 hk)]]
  exact h
theorem Pt.new {N : Nat} {w : World} {fe : Nat} {P : Lk.PcV} {A : PcA} (hN : N ≤ w.heap.size) (hi : InsIn N w A.ia P.n A.ic P.I) (hm : NumIn N w A.ma P.m A.mc P.M) :
    Pt N (w.alloc (.cells #[.func (.func fe) #[] #[], .slice A.ia P.n A.ic, .slice A.ma P.m A.mc, .slice none 0 0] 83)) w.heap.size fe P A.ia A.ma A.ic A.mc (.slice none 0 0) := by
  have hC := Ch.of (l := []) (World.grownBy_alloc w (.cells #[.func (.func fe) #[] #[], .slice A.ia P.n A.ic, .slice A.ma P.m A.mc, .slice none 0 0] 83) none)
  refine ⟨?_, hi.ch hC (by simp), hm.ch hC (by simp), hN⟩
  show (w.heap.push _)[w.heap.size]? = _
  simp
set_option maxRecDepth 100000 in
set_option maxHeartbeats 16000000 in
theorem take_r {N : Nat} {w : World} {a : Option Addr} {K c : Nat} {V : Nat → Lk.PcV} {A : Nat → PcA} (h : PcsIn N w a K c V A) (hTab : TabAt w) (hTN : 2 < N) (hNw : N ≤ w.heap.size) (hK0 : 0 < K) (hK : K ≤ 33) (hn : ∀ k, k < K → ((V k).n : Int) ≤ 8796093022208) :
    Calls Tryz.prog 20 #[.int .i64 1, .slice a K c] w fun e w' => w.grownBy w' none ∧
      ((Lk.piecesB 1 K V = true ∧ ∃ rv B, e = .returned (.tuple #[rv, .bool true]) ∧ Rw N w' rv K 60 V B (fun k => ((V k).sh 1).s)) ∨ (Lk.piecesB 1 K V = false ∧ e = .returned (.tuple #[.slice none 0 0, .bool false]))) := by
  have HPs : Hid (∀ W, w.grownBy W none → PcsIn N W a K c V A) := fun W g => h.ch (l := []) (Ch.of g) (by simp)
  have HTb : Hid (TabAt w) := hTab
  have HNn : Hid (∀ k, k < K → ((V k).n : Int) ≤ 8796093022208) := hn
  have HNo : Hid (∀ k, k < K → (Lk.marksB (V k) && Lk.instsB 1 K (V k)) = false → Lk.piecesB 1 K V = false) := fun k hk hf => Lk.piecesB_no hk hf
  have HYes : Hid ((∀ k, k < K → Lk.marksB (V k) = true ∧ Lk.instsB 1 K (V k) = true) → Lk.piecesB 1 K V = true) := Lk.piecesB_iff.2
  obtain ⟨R, hR⟩ : ∃ R, R = Lk.piecesB 1 K V := ⟨_, rfl⟩
  rw [← hR] at HNo HYes ⊢
  clear h hTab hn hR
  have hK0' : (0 : Int) < K := by omega
  have hK0'' : ((K : Int) == 0) = false := by simp; omega
  have hK' : (K : Int) ≤ 33 := by omega
  go_enter Tryz.func20, Tryz.ntmps20
  go_wp2_with (go_at_call 38; refine (encof_r _).mono ?_; rintro e w0 ⟨rfl, hw0⟩; rw [hw0]; clear hw0 w0)
  go_loopw [8, 31] (fun rv i wr => ∃ (k : Nat) (B : Nat → PtA), i = .int .i64 k ∧ k ≤ K ∧ Rw N wr rv k 60 V B (fun k => ((V k).sh 1).s) ∧ wr.ownsRow w.heap.size 59 1 rv k ((List.range k).map fun j => Value.pointer (some ⟨(B j).B, 0, none⟩)) ∧ w.grownBy wr none ∧ (∀ j, j < k → Lk.marksB (V j) = true ∧ Lk.instsB 1 K (V j) = true)) (fun _ i _ => K - (intOf i).toNat)
  case atStart => exact ⟨0, fun _ => ⟨0, 0, none, 0, none, 0⟩, rfl, Nat.zero_le _, Rw.nil _ _ _ _ _ _, World.ownsRow_nil _ _ _ _, World.grownBy.refl _ _, fun j hj => by omega⟩
  case round =>
    obtain ⟨al, hal⟩ : ∃ al, al = u8 := ⟨_, rfl⟩
    obtain ⟨k, B, rfl, hk, hrw, how, hg, hall⟩ := hrel
    rw [← hal] at hrw how ⊢
    clear hal
    have HRw : Hid (Rw N wr al k 60 V B (fun k => ((V k).sh 1).s)) := hrw
    have HG : Hid (w.grownBy wr none) := hg
    have HAl : Hid (∀ j, j < k → Lk.marksB (V j) = true ∧ Lk.instsB 1 K (V j) = true) := hall
    have hNr : N ≤ wr.heap.size := Nat.le_trans hNw hg.size
    obtain ⟨ao, cp, rfl, _⟩ := hrw.slice
    have HOw : Hid (wr.ownsRow w.heap.size 59 1 (.slice ao k cp) k ((List.range k).map fun j => Value.pointer (some ⟨(B j).B, 0, none⟩))) := how
    have hwr := hg.size
    clear hrw hall how
    by_cases hkK : k < K
    · have hkK' : (k : Int) < K := by omega
      obtain ⟨b, off, rfl, hb, hpc⟩ := (HPs.out wr hg).at hkK
      obtain ⟨P, hP⟩ : ∃ P, P = V k := ⟨_, rfl⟩
      obtain ⟨Q, hQ⟩ : ∃ Q, Q = A k := ⟨_, rfl⟩
      have hnk := HNn.out k hkK
      rw [← hP, ← hQ] at hpc
      rw [← hP] at hnk
      obtain ⟨c0, c1, c2, hins, hmks⟩ := hpc
      have HNk : Hid ((Lk.marksB P && Lk.instsB 1 K P) = false → R = false) := by rw [hP]; exact HNo.out k hkK
      have hA1 := World.grownBy_alloc wr (Obj.cells #[.slice Q.ia P.n Q.ic, .slice Q.ma P.m Q.mc, .int .i64 Q.out] 48) none
      have hPt := Pt.new (w := wr.alloc (Obj.cells #[.slice Q.ia P.n Q.ic, .slice Q.ma P.m Q.mc, .int .i64 Q.out] 48)) (fe := 60) (Nat.le_trans hNr hA1.size) (hins.ch (l := []) (Ch.of hA1) (by simp)) (hmks.ch (l := []) (Ch.of hA1) (by simp))
      have HGp : Hid (wr.grownBy ((wr.alloc (Obj.cells #[.slice Q.ia P.n Q.ic, .slice Q.ma P.m Q.mc, .int .i64 Q.out] 48)).alloc (.cells #[.func (.func 60) #[] #[], .slice Q.ia P.n Q.ic, .slice Q.ma P.m Q.mc, .slice none 0 0] 83)) none) := ga hA1 _
      have hBe : (wr.alloc (Obj.cells #[.slice Q.ia P.n Q.ic, .slice Q.ma P.m Q.mc, .int .i64 Q.out] 48)).heap.size = wr.heap.size + 1 := by simp
      rw [hBe] at hPt
      have hs2 : ((wr.alloc (Obj.cells #[.slice Q.ia P.n Q.ic, .slice Q.ma P.m Q.mc, .int .i64 Q.out] 48)).alloc (.cells #[.func (.func 60) #[] #[], .slice Q.ia P.n Q.ic, .slice Q.ma P.m Q.mc, .slice none 0 0] 83)).heap.size = wr.heap.size + 2 := by simp
      have HMk := pmarks_any hPt
      have HMs := pmeas_r (K : Int) hPt ((HTb.out.kept HG.out (by simp)).kept HGp.out (by simp)) hTN hnk
      rw [hs2] at HMs
      have HPk : Hid (P = V k) := hP
      have HMk2 : Hid (Calls Tryz.prog 39 #[.pointer (some ⟨wr.heap.size + 1, 0, none⟩)] ((wr.alloc (Obj.cells #[.slice Q.ia P.n Q.ic, .slice Q.ma P.m Q.mc, .int .i64 Q.out] 48)).alloc (.cells #[.func (.func 60) #[] #[], .slice Q.ia P.n Q.ic, .slice Q.ma P.m Q.mc, .slice none 0 0] 83)) fun e w' => e = .returned (.bool (Lk.marksB P)) ∧ w' = ((wr.alloc (Obj.cells #[.slice Q.ia P.n Q.ic, .slice Q.ma P.m Q.mc, .int .i64 Q.out] 48)).alloc (.cells #[.func (.func 60) #[] #[], .slice Q.ia P.n Q.ic, .slice Q.ma P.m Q.mc, .slice none 0 0] 83))) := HMk
      have HMs2 : Hid (Calls Tryz.prog 40 #[.pointer (some ⟨wr.heap.size + 1, 0, none⟩), .int .i64 (K : Int)] ((wr.alloc (Obj.cells #[.slice Q.ia P.n Q.ic, .slice Q.ma P.m Q.mc, .int .i64 Q.out] 48)).alloc (.cells #[.func (.func 60) #[] #[], .slice Q.ia P.n Q.ic, .slice Q.ma P.m Q.mc, .slice none 0 0] 83)) fun e w' => e = .returned (.bool (Lk.instsB 1 K P)) ∧ Ch ((wr.alloc (Obj.cells #[.slice Q.ia P.n Q.ic, .slice Q.ma P.m Q.mc, .int .i64 Q.out] 48)).alloc (.cells #[.func (.func 60) #[] #[], .slice Q.ia P.n Q.ic, .slice Q.ma P.m Q.mc, .slice none 0 0] 83)) w' [wr.heap.size + 1] ∧
        (Lk.instsB 1 K P = true → Pt N w' (wr.heap.size + 1) 60 P Q.ia Q.ma Q.ic Q.mc (.slice (some ⟨wr.heap.size + 2, 0, none⟩) P.n P.n) ∧ OwnN w' N (.slice (some ⟨wr.heap.size + 2, 0, none⟩) P.n P.n) P.n (P.sh 1).s)) := HMs
      clear hBe hs2 HMk HMs hP hQ hnk hPt
      cases hmb : Lk.marksB P
      · rw [hmb] at HMk2
        go_wp2_with (first | (go_at_call 39; refine HMk2.out.mono ?_; rintro e w4 ⟨rfl, hw4⟩; rw [hw4]; clear hw4 w4))
        go_ret2
        exact ⟨grown_trans HG.out HGp.out, .inr ⟨HNk.out (by rw [hmb]; rfl), rfl⟩⟩
      · rw [hmb] at HMk2
        cases hib : Lk.instsB 1 K P
        · rw [hib] at HMs2
          go_wp2_with (first | (go_at_call 39; refine HMk2.out.mono ?_; rintro e w4 ⟨rfl, hw4⟩; rw [hw4]; clear hw4 w4) | (go_at_call 40; refine HMs2.out.mono ?_; rintro e w5 ⟨rfl, hc5, _⟩))
          go_ret2
          exact ⟨grown_trans HG.out (((Ch.of HGp.out).trans hc5).nil (by simp)), .inr ⟨HNk.out (by rw [hib]; simp), rfl⟩⟩
        · rw [hib] at HMs2
          go_wp2_with (first | (go_at_call 39; refine HMk2.out.mono ?_; rintro e w4 ⟨rfl, hw4⟩; rw [hw4]; clear hw4 w4) | (go_at_call 40; refine HMs2.out.mono ?_; rintro e w5 ⟨rfl, hc5, hy5⟩; obtain ⟨hp5, ho5⟩ := hy5 (by trivial); have HG5 : Hid (wr.grownBy w5 none) := ((Ch.of HGp.out).trans hc5).nil (by simp); have HP5 : Hid (Pt N w5 (wr.heap.size + 1) 60 P Q.ia Q.ma Q.ic Q.mc (.slice (some ⟨wr.heap.size + 2, 0, none⟩) P.n P.n)) := hp5; have HO5 : Hid (OwnN w5 N (.slice (some ⟨wr.heap.size + 2, 0, none⟩) P.n P.n) P.n (P.sh 1).s) := ho5; have hs5 : w.heap.size ≤ w5.heap.size := Nat.le_trans hwr HG5.out.size; clear hc5 hy5 hp5 ho5) | (at_builtin; refine wp_appP rfl _ _ rfl w.heap.size k (.slice ao k cp) (fun j => (if j < k then B j else ⟨wr.heap.size + 1, wr.heap.size + 2, Q.ia, Q.ic, Q.ma, Q.mc⟩ : PtA).B) (wr.heap.size + 1) rfl (own_if (World.ownsRow.kept HOw.out HG5.out (Classical.em _)) _) rfl (by omega) hs5 (by simp) ?_; intro v6 w6 ho6 hg6))
          have e := HPk.out
          subst e
          have hR6 := (HRw.out.grow HG5.out).app (n := ⟨wr.heap.size + 1, wr.heap.size + 2, Q.ia, Q.ic, Q.ma, Q.mc⟩) HP5.out HO5.out (fun j hj => by show (B j).T ≠ wr.heap.size + 2; have : (B j).T < wr.heap.size := (HRw.out.sz j hj).lt _ rfl; omega) (World.ownsRow.mono ho6 hNw) hg6
          exact ⟨⟨k + 1, _, by go_num, by omega, hR6, ho6, own_new (v := .nilFunc) (grown_trans HG.out HG5.out) hg6 (fun b hb => (World.ownsRow.lt HOw.out b hb).1), fun j hj => by
            by_cases e : j = k
            · subst e; exact ⟨hmb, hib⟩
            · exact HAl.out j (by omega)⟩, by simp [intOf]; omega⟩
    · obtain rfl : k = K := by omega
      go_wp2
      go_ret2
      exact ⟨HG.out, .inl ⟨HYes.out HAl.out, _, B, rfl, HRw.out⟩⟩
set_option maxRecDepth 100000 in
set_option maxHeartbeats 16000000 in
theorem take_c {N : Nat} {w : World} {a : Option Addr} {K c : Nat} {V : Nat → Lk.PcV} {A : Nat → PcA} (h : PcsIn N w a K c V A) (hTab : TabAt w) (hTN : 2 < N) (hNw : N ≤ w.heap.size) (hK0 : 0 < K) (hK : K ≤ 33) (hn : ∀ k, k < K → ((V k).n : Int) ≤ 8796093022208) :
    Calls Tryz.prog 20 #[.int .i64 2, .slice a K c] w fun e w' => w.grownBy w' none ∧
      ((Lk.piecesB 2 K V = true ∧ ∃ rv B, e = .returned (.tuple #[rv, .bool true]) ∧ Rw N w' rv K 61 V B (fun k => ((V k).sh 2).s)) ∨ (Lk.piecesB 2 K V = false ∧ e = .returned (.tuple #[.slice none 0 0, .bool false]))) := by
  have HPs : Hid (∀ W, w.grownBy W none → PcsIn N W a K c V A) := fun W g => h.ch (l := []) (Ch.of g) (by simp)
  have HTb : Hid (TabAt w) := hTab
  have HNn : Hid (∀ k, k < K → ((V k).n : Int) ≤ 8796093022208) := hn
  have HNo : Hid (∀ k, k < K → (Lk.marksB (V k) && Lk.instsB 2 K (V k)) = false → Lk.piecesB 2 K V = false) := fun k hk hf => Lk.piecesB_no hk hf
  have HYes : Hid ((∀ k, k < K → Lk.marksB (V k) = true ∧ Lk.instsB 2 K (V k) = true) → Lk.piecesB 2 K V = true) := Lk.piecesB_iff.2
  obtain ⟨R, hR⟩ : ∃ R, R = Lk.piecesB 2 K V := ⟨_, rfl⟩
  rw [← hR] at HNo HYes ⊢
  clear h hTab hn hR
  have hK0' : (0 : Int) < K := by omega
  have hK0'' : ((K : Int) == 0) = false := by simp; omega
  have hK' : (K : Int) ≤ 33 := by omega
  go_enter Tryz.func20, Tryz.ntmps20
  go_wp2_with (go_at_call 38; refine (encof_c _).mono ?_; rintro e w0 ⟨rfl, hw0⟩; rw [hw0]; clear hw0 w0)
  go_loopw [8, 31] (fun rv i wr => ∃ (k : Nat) (B : Nat → PtA), i = .int .i64 k ∧ k ≤ K ∧ Rw N wr rv k 61 V B (fun k => ((V k).sh 2).s) ∧ wr.ownsRow w.heap.size 59 1 rv k ((List.range k).map fun j => Value.pointer (some ⟨(B j).B, 0, none⟩)) ∧ w.grownBy wr none ∧ (∀ j, j < k → Lk.marksB (V j) = true ∧ Lk.instsB 2 K (V j) = true)) (fun _ i _ => K - (intOf i).toNat)
  case atStart => exact ⟨0, fun _ => ⟨0, 0, none, 0, none, 0⟩, rfl, Nat.zero_le _, Rw.nil _ _ _ _ _ _, World.ownsRow_nil _ _ _ _, World.grownBy.refl _ _, fun j hj => by omega⟩
  case round =>
    obtain ⟨al, hal⟩ : ∃ al, al = u8 := ⟨_, rfl⟩
    obtain ⟨k, B, rfl, hk, hrw, how, hg, hall⟩ := hrel
    rw [← hal] at hrw how ⊢
    clear hal
    have HRw : Hid (Rw N wr al k 61 V B (fun k => ((V k).sh 2).s)) := hrw
    have HG : Hid (w.grownBy wr none) := hg
    have HAl : Hid (∀ j, j < k → Lk.marksB (V j) = true ∧ Lk.instsB 2 K (V j) = true) := hall
    have hNr : N ≤ wr.heap.size := Nat.le_trans hNw hg.size
    obtain ⟨ao, cp, rfl, _⟩ := hrw.slice
    have HOw : Hid (wr.ownsRow w.heap.size 59 1 (.slice ao k cp) k ((List.range k).map fun j => Value.pointer (some ⟨(B j).B, 0, none⟩))) := how
    have hwr := hg.size
    clear hrw hall how
    by_cases hkK : k < K
    · have hkK' : (k : Int) < K := by omega
      obtain ⟨b, off, rfl, hb, hpc⟩ := (HPs.out wr hg).at hkK
      obtain ⟨P, hP⟩ : ∃ P, P = V k := ⟨_, rfl⟩
      obtain ⟨Q, hQ⟩ : ∃ Q, Q = A k := ⟨_, rfl⟩
      have hnk := HNn.out k hkK
      rw [← hP, ← hQ] at hpc
      rw [← hP] at hnk
      obtain ⟨c0, c1, c2, hins, hmks⟩ := hpc
      have HNk : Hid ((Lk.marksB P && Lk.instsB 2 K P) = false → R = false) := by rw [hP]; exact HNo.out k hkK
      have hA1 := World.grownBy_alloc wr (Obj.cells #[.slice Q.ia P.n Q.ic, .slice Q.ma P.m Q.mc, .int .i64 Q.out] 48) none
      have hPt := Pt.new (w := wr.alloc (Obj.cells #[.slice Q.ia P.n Q.ic, .slice Q.ma P.m Q.mc, .int .i64 Q.out] 48)) (fe := 61) (Nat.le_trans hNr hA1.size) (hins.ch (l := []) (Ch.of hA1) (by simp)) (hmks.ch (l := []) (Ch.of hA1) (by simp))
      have HGp : Hid (wr.grownBy ((wr.alloc (Obj.cells #[.slice Q.ia P.n Q.ic, .slice Q.ma P.m Q.mc, .int .i64 Q.out] 48)).alloc (.cells #[.func (.func 61) #[] #[], .slice Q.ia P.n Q.ic, .slice Q.ma P.m Q.mc, .slice none 0 0] 83)) none) := ga hA1 _
      have hBe : (wr.alloc (Obj.cells #[.slice Q.ia P.n Q.ic, .slice Q.ma P.m Q.mc, .int .i64 Q.out] 48)).heap.size = wr.heap.size + 1 := by simp
      rw [hBe] at hPt
      have hs2 : ((wr.alloc (Obj.cells #[.slice Q.ia P.n Q.ic, .slice Q.ma P.m Q.mc, .int .i64 Q.out] 48)).alloc (.cells #[.func (.func 61) #[] #[], .slice Q.ia P.n Q.ic, .slice Q.ma P.m Q.mc, .slice none 0 0] 83)).heap.size = wr.heap.size + 2 := by simp
      have HMk := pmarks_any hPt
      have HMs := pmeas_c (K : Int) hPt ((HTb.out.kept HG.out (by simp)).kept HGp.out (by simp)) hTN hnk
      rw [hs2] at HMs
      have HPk : Hid (P = V k) := hP
      have HMk2 : Hid (Calls Tryz.prog 39 #[.pointer (some ⟨wr.heap.size + 1, 0, none⟩)] ((wr.alloc (Obj.cells #[.slice Q.ia P.n Q.ic, .slice Q.ma P.m Q.mc, .int .i64 Q.out] 48)).alloc (.cells #[.func (.func 61) #[] #[], .slice Q.ia P.n Q.ic, .slice Q.ma P.m Q.mc, .slice none 0 0] 83)) fun e w' => e = .returned (.bool (Lk.marksB P)) ∧ w' = ((wr.alloc (Obj.cells #[.slice Q.ia P.n Q.ic, .slice Q.ma P.m Q.mc, .int .i64 Q.out] 48)).alloc (.cells #[.func (.func 61) #[] #[], .slice Q.ia P.n Q.ic, .slice Q.ma P.m Q.mc, .slice none 0 0] 83))) := HMk
      have HMs2 : Hid (Calls Tryz.prog 40 #[.pointer (some ⟨wr.heap.size + 1, 0, none⟩), .int .i64 (K : Int)] ((wr.alloc (Obj.cells #[.slice Q.ia P.n Q.ic, .slice Q.ma P.m Q.mc, .int .i64 Q.out] 48)).alloc (.cells #[.func (.func 61) #[] #[], .slice Q.ia P.n Q.ic, .slice Q.ma P.m Q.mc, .slice none 0 0] 83)) fun e w' => e = .returned (.bool (Lk.instsB 2 K P)) ∧ Ch ((wr.alloc (Obj.cells #[.slice Q.ia P.n Q.ic, .slice Q.ma P.m Q.mc, .int .i64 Q.out] 48)).alloc (.cells #[.func (.func 61) #[] #[], .slice Q.ia P.n Q.ic, .slice Q.ma P.m Q.mc, .slice none 0 0] 83)) w' [wr.heap.size + 1] ∧
        (Lk.instsB 2 K P = true → Pt N w' (wr.heap.size + 1) 61 P Q.ia Q.ma Q.ic Q.mc (.slice (some ⟨wr.heap.size + 2, 0, none⟩) P.n P.n) ∧ OwnN w' N (.slice (some ⟨wr.heap.size + 2, 0, none⟩) P.n P.n) P.n (P.sh 2).s)) := HMs
      clear hBe hs2 HMk HMs hP hQ hnk hPt
      cases hmb : Lk.marksB P
      · rw [hmb] at HMk2
        go_wp2_with (first | (go_at_call 39; refine HMk2.out.mono ?_; rintro e w4 ⟨rfl, hw4⟩; rw [hw4]; clear hw4 w4))
        go_ret2
        exact ⟨grown_trans HG.out HGp.out, .inr ⟨HNk.out (by rw [hmb]; rfl), rfl⟩⟩
      · rw [hmb] at HMk2
        cases hib : Lk.instsB 2 K P
        · rw [hib] at HMs2
          go_wp2_with (first | (go_at_call 39; refine HMk2.out.mono ?_; rintro e w4 ⟨rfl, hw4⟩; rw [hw4]; clear hw4 w4) | (go_at_call 40; refine HMs2.out.mono ?_; rintro e w5 ⟨rfl, hc5, _⟩))
          go_ret2
          exact ⟨grown_trans HG.out (((Ch.of HGp.out).trans hc5).nil (by simp)), .inr ⟨HNk.out (by rw [hib]; simp), rfl⟩⟩
        · rw [hib] at HMs2
          go_wp2_with (first | (go_at_call 39; refine HMk2.out.mono ?_; rintro e w4 ⟨rfl, hw4⟩; rw [hw4]; clear hw4 w4) | (go_at_call 40; refine HMs2.out.mono ?_; rintro e w5 ⟨rfl, hc5, hy5⟩; obtain ⟨hp5, ho5⟩ := hy5 (by trivial); have HG5 : Hid (wr.grownBy w5 none) := ((Ch.of HGp.out).trans hc5).nil (by simp); have HP5 : Hid (Pt N w5 (wr.heap.size + 1) 61 P Q.ia Q.ma Q.ic Q.mc (.slice (some ⟨wr.heap.size + 2, 0, none⟩) P.n P.n)) := hp5; have HO5 : Hid (OwnN w5 N (.slice (some ⟨wr.heap.size + 2, 0, none⟩) P.n P.n) P.n (P.sh 2).s) := ho5; have hs5 : w.heap.size ≤ w5.heap.size := Nat.le_trans hwr HG5.out.size; clear hc5 hy5 hp5 ho5) | (at_builtin; refine wp_appP rfl _ _ rfl w.heap.size k (.slice ao k cp) (fun j => (if j < k then B j else ⟨wr.heap.size + 1, wr.heap.size + 2, Q.ia, Q.ic, Q.ma, Q.mc⟩ : PtA).B) (wr.heap.size + 1) rfl (own_if (World.ownsRow.kept HOw.out HG5.out (Classical.em _)) _) rfl (by omega) hs5 (by simp) ?_; intro v6 w6 ho6 hg6))
          have e := HPk.out
          subst e
          have hR6 := (HRw.out.grow HG5.out).app (n := ⟨wr.heap.size + 1, wr.heap.size + 2, Q.ia, Q.ic, Q.ma, Q.mc⟩) HP5.out HO5.out (fun j hj => by show (B j).T ≠ wr.heap.size + 2; have : (B j).T < wr.heap.size := (HRw.out.sz j hj).lt _ rfl; omega) (World.ownsRow.mono ho6 hNw) hg6
          exact ⟨⟨k + 1, _, by go_num, by omega, hR6, ho6, own_new (v := .nilFunc) (grown_trans HG.out HG5.out) hg6 (fun b hb => (World.ownsRow.lt HOw.out b hb).1), fun j hj => by
            by_cases e : j = k
            · subst e; exact ⟨hmb, hib⟩
            · exact HAl.out j (by omega)⟩, by simp [intOf]; omega⟩
    · obtain rfl : k = K := by omega
      go_wp2
      go_ret2
      exact ⟨HG.out, .inl ⟨HYes.out HAl.out, _, B, rfl, HRw.out⟩⟩
theorem take_no {t : Int} {a : Option Addr} {K c : Nat} (w : World) (h1 : (t == 1) = false) (h2 : (t == 2) = false) :
    Calls Tryz.prog 20 #[.int .i64 t, .slice a K c] w fun e w' => e = .returned (.tuple #[.slice none 0 0, .bool false]) ∧ w' = w := by
  go_enter Tryz.func20, Tryz.ntmps20
  go_wp2_with (go_at_call 38; refine (encof_no t h1 h2 _).mono ?_; rintro e w0 ⟨rfl, hw0⟩; rw [hw0]; clear hw0 w0)
  go_ret2
  exact ⟨rfl, rfl⟩
theorem take_r0 {a : Option Addr} {K c : Nat} (w : World) (h : K = 0 ∨ 33 < K) :
    Calls Tryz.prog 20 #[.int .i64 1, .slice a K c] w fun e w' => e = .returned (.tuple #[.slice none 0 0, .bool false]) ∧ w' = w := by
  rcases h with rfl | h
  · go_enter Tryz.func20, Tryz.ntmps20
    go_wp2_with (go_at_call 38; refine (encof_r _).mono ?_; rintro e w0 ⟨rfl, hw0⟩; rw [hw0]; clear hw0 w0)
    go_ret2
    exact ⟨rfl, rfl⟩
  · have h' : (33 : Int) < K := by omega
    have h0 : ((K : Int) == 0) = false := by simp; omega
    go_enter Tryz.func20, Tryz.ntmps20
    go_wp2_with (go_at_call 38; refine (encof_r _).mono ?_; rintro e w0 ⟨rfl, hw0⟩; rw [hw0]; clear hw0 w0)
    go_ret2
    exact ⟨rfl, rfl⟩
theorem take_c0 {a : Option Addr} {K c : Nat} (w : World) (h : K = 0 ∨ 33 < K) :
    Calls Tryz.prog 20 #[.int .i64 2, .slice a K c] w fun e w' => e = .returned (.tuple #[.slice none 0 0, .bool false]) ∧ w' = w := by
  rcases h with rfl | h
  · go_enter Tryz.func20, Tryz.ntmps20
    go_wp2_with (go_at_call 38; refine (encof_c _).mono ?_; rintro e w0 ⟨rfl, hw0⟩; rw [hw0]; clear hw0 w0)
    go_ret2
    exact ⟨rfl, rfl⟩
  · have h' : (33 : Int) < K := by omega
    have h0 : ((K : Int) == 0) = false := by simp; omega
    go_enter Tryz.func20, Tryz.ntmps20
    go_wp2_with (go_at_call 38; refine (encof_c _).mono ?_; rintro e w0 ⟨rfl, hw0⟩; rw [hw0]; clear hw0 w0)
    go_ret2
    exact ⟨rfl, rfl⟩
end Go.Proofs.YtkiockffejlnhaaGreatDoor

/- The instructions of linked pieces, with the Imms that lead to their labels and pieces; their bytes. -/
namespace Go.Proofs.YtkiockffejlnhaaGreatDoor
open Go.RowKit
set_option linter.unusedVariables false
namespace Lk
def fin (t : Int) (V : Nat → PcV) (S : Nat → Nat → Int) (k i : Nat) : InV :=
  if jmpB ((V k).I i).op then lead ((V k).I i) (immS (V k) t (S k) i)
  else if ((V k).I i).op = 23 then lead ((V k).I i) (pos (ends V S) ((V k).I i).label.toNat - (pos (ends V S) k + pos (S k) (i + 1))) else (V k).I i
def codeP (t : Int) (V : Nat → PcV) (S : Nat → Nat → Int) (k : Nat) : Nat → List Int
  | 0 => []
  | i + 1 => codeP t V S k i ++ Ru.encT t (fin t V S k i)
def codeA (t : Int) (V : Nat → PcV) (S : Nat → Nat → Int) : Nat → List Int
  | 0 => []
  | k + 1 => codeA t V S k ++ codeP t V S k (V k).n
structure Lkd (t : Int) (K : Nat) (V : Nat → PcV) (Ls : Nat → Nat → Bool) : Prop where
  ok : ∀ k, k < K → (V k).Ok t K
  le : ∀ k, k < K → ((V k).sh t).Least (Ls k)
  rng : ∀ k, k < K → ∀ i, i < (V k).n → InRng ((V k).I i)
  max : pos (ends V (fun k => ((V k).sh t).size (Ls k))) K ≤ 1048576
def SS (t : Int) (V : Nat → PcV) (Ls : Nat → Nat → Bool) (k : Nat) : Nat → Int := ((V k).sh t).size (Ls k)
theorem pos_mono {s : Nat → Int} {a b : Nat} (h : a ≤ b) (hs : ∀ i, a ≤ i → i < b → 0 ≤ s i) : pos s a ≤ pos s b := by
  have := pos_le (s := fun _ => 0) (s' := s) h (fun i h1 h2 => hs i h1 h2)
  have e : ∀ k, pos (fun _ => (0 : Int)) k = 0 := fun k => by
    induction k with
    | zero => rfl
    | succ k ih => rw [pos_succ, ih]; rfl
  rw [e, e] at this
  omega
theorem size_le {t p : Int} {P : PcV} (h : P.Ok t p) (L : Nat → Bool) {i : Nat} (hi : i < P.n) : 1 ≤ (P.sh t).size L i ∧ (P.sh t).size L i ≤ 33 := by
  refine ⟨h.sh.size1 L hi, ?_⟩
  unfold Sh.size
  split
  · show long t ≤ 33; unfold long; split <;> decide
  · show ((Ru.encT t (bare (P.I i))).length : Int) ≤ 33
    have := (Ru.encT_len t (bare (P.I i))).2
    omega
theorem Lkd.ends0 {t : Int} {K : Nat} {V : Nat → PcV} {Ls : Nat → Nat → Bool} (h : Lkd t K V Ls) {k : Nat} (hk : k < K) : 0 ≤ ends V (SS t V Ls) k := by
  have := pos_mono (s := SS t V Ls k) (Nat.zero_le (V k).n) (fun i _ hi => by have := (size_le (h.ok k hk) (Ls k) hi).1; show 0 ≤ ((V k).sh t).size (Ls k) i; omega)
  simpa [pos, ends] using this
theorem Lkd.pos_in {t : Int} {K : Nat} {V : Nat → PcV} {Ls : Nat → Nat → Bool} (h : Lkd t K V Ls) {k : Nat} (hk : k < K) {i : Nat} (hi : i ≤ (V k).n) : 0 ≤ pos (SS t V Ls k) i ∧ pos (ends V (SS t V Ls)) k + pos (SS t V Ls k) i ≤ 1048576 ∧ 0 ≤ pos (ends V (SS t V Ls)) k := by
  have h0 : ∀ j, j < (V k).n → 0 ≤ SS t V Ls k j := fun j hj => by have := (size_le (h.ok k hk) (Ls k) hj).1; show 0 ≤ ((V k).sh t).size (Ls k) j; omega
  have h1 := pos_mono (s := SS t V Ls k) (Nat.zero_le i) (fun j _ hj => h0 j (by omega))
  have h2 := pos_mono (s := SS t V Ls k) hi (fun j _ hj => h0 j hj)
  have h3 := pos_mono (s := ends V (SS t V Ls)) (Nat.zero_le k) (fun j _ hj => h.ends0 (by omega))
  have h4 := pos_mono (s := ends V (SS t V Ls)) (a := k + 1) (b := K) (by omega) (fun j _ hj => h.ends0 hj)
  have h5 : pos (ends V (SS t V Ls)) (k + 1) = pos (ends V (SS t V Ls)) k + pos (SS t V Ls k) (V k).n := rfl
  have h6 : pos (ends V (SS t V Ls)) K ≤ 1048576 := h.max
  have e0 : pos (SS t V Ls k) 0 = 0 := rfl
  have e1 : pos (ends V (SS t V Ls)) 0 = 0 := rfl
  omega
theorem Lkd.n_le {t : Int} {K : Nat} {V : Nat → PcV} {Ls : Nat → Nat → Bool} (h : Lkd t K V Ls) {k : Nat} (hk : k < K) : (V k).n ≤ 1048576 := by
  have h1 := pos_count (s := SS t V Ls k) (Nat.zero_le (V k).n) (fun j _ hj => (size_le (h.ok k hk) (Ls k) hj).1)
  have h2 := h.pos_in hk (Nat.le_refl (V k).n)
  have e0 : pos (SS t V Ls k) 0 = 0 := rfl
  omega
theorem Lkd.fin {t : Int} {K : Nat} {V : Nat → PcV} {Ls : Nat → Nat → Bool} (h : Lkd t K V Ls) {k : Nat} (hk : k < K) {i : Nat} (hi : i < (V k).n) :
    Ru.mayT t (Lk.fin t V (SS t V Ls) k i) = true ∧ InRng (Lk.fin t V (SS t V Ls) k i) ∧ ((Ru.encT t (Lk.fin t V (SS t V Ls) k i)).length : Int) = SS t V Ls k i := by
  have hm := (h.ok k hk).may hi
  have hr := h.rng k hk i hi
  have hp := h.pos_in hk (i := i + 1) (by omega)
  unfold Lk.fin
  cases hj : jmpB ((V k).I i).op
  · simp only [Bool.false_eq_true, if_false]
    by_cases hc : ((V k).I i).op = 23
    · rw [if_pos hc]
      have hl := lab_call hm.1 hc
      have hq := h.pos_in (k := ((V k).I i).label.toNat) (by omega) (Nat.zero_le _)
      have e0 : pos (SS t V Ls ((V k).I i).label.toNat) 0 = 0 := rfl
      refine ⟨may_lead (.inr hc) hm.2 (by omega) (by omega), ⟨?_, ?_, hr.s1, hr.s2⟩, ?_⟩
      · show -9223372036854775808 ≤ _ - _; omega
      · show _ - _ ≤ (9223372036854775807 : Int); omega
      · rw [len_call hc]
        show _ = ((V k).sh t).size (Ls k) i
        unfold Sh.size
        have : ((V k).sh t).j i = false := hj
        rw [this]
        rfl
    · rw [if_neg hc]
      have hb := bare_label (lab_none hm.1 hj hc)
      rw [hb] at hm
      refine ⟨hm.2, hr, ?_⟩
      show _ = ((V k).sh t).size (Ls k) i
      unfold Sh.size
      have : ((V k).sh t).j i = false := hj
      rw [this]
      show _ = ((Ru.encT t (bare ((V k).I i))).length : Int)
      rw [hb]
  · simp only [if_true]
    have htg := (h.ok k hk).sh.tg i hi hj
    have hq := h.pos_in hk htg
    have hs : -2147483648 ≤ ((V k).sh t).imm (Ls k) i ∧ ((V k).sh t).imm (Ls k) i < 2147483648 := by
      unfold Sh.imm
      have e1 : pos (((V k).sh t).size (Ls k)) (((V k).sh t).tg i) = pos (SS t V Ls k) (((V k).sh t).tg i) := rfl
      have e2 : pos (((V k).sh t).size (Ls k)) (i + 1) = pos (SS t V Ls k) (i + 1) := rfl
      rw [e1, e2]
      omega
    have hi2 : immS (V k) t (SS t V Ls k) i = ((V k).sh t).imm (Ls k) i := rfl
    rw [hi2]
    refine ⟨may_lead (.inl hj) hm.2 hs.1 hs.2, ⟨?_, ?_, hr.s1, hr.s2⟩, (h.ok k hk).len (h.le k hk) hi hj hs⟩
    · show -9223372036854775808 ≤ ((V k).sh t).imm (Ls k) i; omega
    · show ((V k).sh t).imm (Ls k) i ≤ 9223372036854775807; omega
theorem Lkd.lenP {t : Int} {K : Nat} {V : Nat → PcV} {Ls : Nat → Nat → Bool} (h : Lkd t K V Ls) {k : Nat} (hk : k < K) : ∀ {i : Nat}, i ≤ (V k).n → ((codeP t V (SS t V Ls) k i).length : Int) = pos (SS t V Ls k) i
  | 0, _ => rfl
  | i + 1, hi => by
    have := h.lenP hk (i := i) (by omega)
    have h2 := (h.fin hk (i := i) (by omega)).2.2
    unfold codeP
    rw [List.length_append, pos_succ]
    omega
theorem Lkd.lenA {t : Int} {K : Nat} {V : Nat → PcV} {Ls : Nat → Nat → Bool} (h : Lkd t K V Ls) : ∀ {k : Nat}, k ≤ K → ((codeA t V (SS t V Ls) k).length : Int) = pos (ends V (SS t V Ls)) k
  | 0, _ => rfl
  | k + 1, hk => by
    have := h.lenA (k := k) (by omega)
    have h2 := h.lenP (k := k) (by omega) (Nat.le_refl _)
    unfold codeA
    have e : ends V (SS t V Ls) k = pos (SS t V Ls k) (V k).n := rfl
    rw [List.length_append, pos_succ, e]
    omega
end Lk
end Go.Proofs.YtkiockffejlnhaaGreatDoor
