/- LinkExact: the walk. -/
import Derived.Test.YtkiockffejlnhaaGreatDoorLeRef
import Derived.Test.YtkiockffejlnhaaGreatDoorLeMay
import Derived.Test.YtkiockffejlnhaaGreatDoorG22
namespace Go.Proofs.YtkiockffejlnhaaGreatDoor
set_option maxRecDepth 100000
set_option maxHeartbeats 32000000
open Go.RowKit
set_option linter.unusedVariables false
theorem grown_below6 {w w' : World} (g : w.grownBy w' none) : Below w.heap.size w w' := (Below.refl _ _).grown g (Nat.le_refl _) (by simp)
theorem AkAt.grow {w w' : World} {b o : Nat} {v : AkV} (h : AkAt w b o v) (hg : w.grownBy w' none) : w'.cell? ⟨b, o, none⟩ = some (.int .i64 v.t) ∧ w'.cell? ⟨b, o + 1, none⟩ = some (.slice v.a v.K v.c) ∧ w'.cell? ⟨b, o + 2, none⟩ = some (.slice v.da v.dn v.dc) ∧ w'.cell? ⟨b, o + 3, none⟩ = some (.int .i64 v.en) :=
 ⟨hg.cell h.c0 (by simp), hg.cell h.c1 (by simp), hg.cell h.c2 (by simp), hg.cell h.c3 (by simp)⟩
theorem bs_grow {w w' : World} {a : Option Addr} {n : Nat} {g : Nat → Int} (h : Bs w a n g) (hg : w.grownBy w' none) : Bs w' a n g := by
 rcases h with h0 | ⟨b, off, e, hc⟩
 ·exact .inl h0
 ·exact .inr ⟨b, off, e, fun i hi => hg.cell (hc i hi) (by simp)⟩
theorem eqB_grow {n ca cb : Nat} {ao bo : Option Addr} {g : Nat → Int} {w : World} (hn : (n : Int) ≤ 140737488351232) (ha : Bs w ao n g) (hb : Bs w bo n g) :
  Calls Tryz.prog 10 #[.slice ao n ca, .slice bo n cb] w fun e w' => e = .returned (.bool true) ∧ w.grownBy w' none :=
 (eqB n ca cb ao bo g g w hn ha hb (fun _ _ => rfl)).mono fun e w' ⟨he, d, hd⟩ => ⟨he, by rw [hd]; exact grown_drewN gr0 d⟩
structure Kp (W5 : World) (v : AkV) (qa da' : Option Addr) (qc dc' : Nat) : Prop where
 ep : ∀ W, W5.grownBy W none → Calls Tryz.prog 9 #[.slice qa v.K qc, .slice v.a v.K v.c] W fun e w' => e = .returned (.bool true) ∧ W.grownBy w' none
 eb : ∀ W, W5.grownBy W none → Calls Tryz.prog 10 #[.slice da' v.dn dc', .slice v.da v.dn v.dc] W fun e w' => e = .returned (.bool true) ∧ W.grownBy w' none
theorem linkExact_walk (a : Option Addr) (len cap : Nat) (V : Nat → AkV) (w : World) (hT : TabAt w) (hl : RowB 4 64 AkAt w a len cap V) :
  Calls Tryz.prog 3 #[.slice a len cap] w fun e w' => e = .returned (.bool true) ∧ Below w.heap.size w w' := by
 have HW : Hid (∀ W, w.grownBy W none → Calls Tryz.prog 16 #[] W fun r w' => r = .returned (.bool true) ∧ W.grownBy w' none) := fun W g => wakes6_any W (hT.kept g (by simp))
 have HN : Hid (∀ x W, Calls Tryz.prog 12 #[.int .i64 x] W fun e w' => e = .returned (.int .i64 x) ∧ w' = W) := num6_any
 have HTb : Hid (∀ W, w.grownBy W none → TabAt W) := fun W g => hT.kept g (by simp)
 have hfit : len * 64 ≤ 140737488351232 := hl.fits
 have hfit' : (len : Int) ≤ 140737488351232 := by omega
 clear hT
 rcases hl.bs with h0 | ⟨b, off, rfl, hlt, hV⟩
 ·subst h0
  go_enter Tryz.func3, Tryz.ntmps3
  go_wp2_with fail
  refine wp_loop_once ?_
  go_wp2_with (go_at_call 16; refine (HW.out _ gr0).mono ?_; rintro r w1 ⟨rfl, g1⟩)
  go_ret
  exact ⟨rfl, grown_below6 g1⟩
 ·have HV : Hid (∀ i, i < len → AkAt w b (off + i * 4) (V i)) := hV
  have hle := hl.le
  clear hV hl
  go_enter Tryz.func3, Tryz.ntmps3
  go_wp2_with fail
  go_loopw [3] (fun ix wr => ∃ k : Nat, ix = .int .i64 k ∧ k ≤ len ∧ w.grownBy wr none) (fun ix _ => len - (intOf ix).toNat)
  case atStart => exact ⟨0, rfl, Nat.zero_le _, gr0⟩
  case round =>
   obtain ⟨k, rfl, hk, hg⟩ := hrel
   obtain ⟨wo, hwo⟩ : ∃ wo, wo = wr := ⟨_, rfl⟩
   rw [← hwo] at hg ⊢
   clear hwo
   have HG : Hid (w.grownBy wo none) := hg
   by_cases hkl : k < len
   case neg =>
    have hkl' : ¬ (k : Int) < len := by omega
    clear hg
    go_wp2_with (go_at_call 16; refine (HW.out _ HG.out).mono ?_; rintro r w1 ⟨rfl, g1⟩)
    go_ret
    exact ⟨rfl, grown_below6 (gtr HG.out g1)⟩
   have hkl' : (k : Int) < len := by omega
   by_cases hk6 : k < 6
   case neg =>
    have hk6' : ¬ (k : Int) < 6 := by omega
    clear hg
    go_wp2_with (go_at_call 16; refine (HW.out _ HG.out).mono ?_; rintro r w1 ⟨rfl, g1⟩)
    go_ret
    exact ⟨rfl, grown_below6 (gtr HG.out g1)⟩
   have hk6' : (k : Int) < 6 := by omega
   have hAk := HV.out k hkl
   obtain ⟨t0, t1, t2, t3⟩ := hAk.grow hg
   have hsz := hg.size
   generalize V k = v at *
   obtain ⟨W1, hW1⟩ : ∃ W1, W1 = wo.alloc (.cells #[.int .i64 v.t, .slice v.a v.K v.c, .slice v.da v.dn v.dc, .int .i64 v.en] 26) := ⟨_, rfl⟩
   obtain ⟨B1, hB1⟩ : ∃ B1, B1 = wo.heap.size := ⟨_, rfl⟩
   have g1 : w.grownBy W1 none := by rw [hW1]; exact ga hg _
   have HW1 : Hid (W1 = wo.alloc (.cells #[.int .i64 v.t, .slice v.a v.K v.c, .slice v.da v.dn v.dc, .int .i64 v.en] 26) ∧ B1 = wo.heap.size) := ⟨hW1, hB1⟩
   have hs1 : W1.heap.size = B1 + 1 := by rw [hW1, hB1]; simp
   have b0 : W1.cell? ⟨B1, 0, none⟩ = some (.int .i64 v.t) := by rw [hW1, hB1]; exact cells_new _ _ rfl _
   have b1 : W1.cell? ⟨B1, 1, none⟩ = some (.slice v.a v.K v.c) := by rw [hW1, hB1]; exact cells_new _ _ rfl _
   have b2 : W1.cell? ⟨B1, 2, none⟩ = some (.slice v.da v.dn v.dc) := by rw [hW1, hB1]; exact cells_new _ _ rfl _
   have b3 : W1.cell? ⟨B1, 3, none⟩ = some (.int .i64 v.en) := by rw [hW1, hB1]; exact cells_new _ _ rfl _
   have HPs : Hid (∀ W, W1.grownBy W none → PcsIn w.heap.size W v.a v.K v.c v.V v.A) := fun W g => hAk.ps.ps.grow (gtr g1 g)
   have HBs : Hid (∀ W, W1.grownBy W none → BsIn W v.da v.dn v.dc v.dg) := fun W g => hAk.d.kept (gtr g1 g)
   have HTb1 : Hid (∀ W, W1.grownBy W none → TabAt W) := fun W g => HTb.out W (gtr g1 g)
   have HQ : Hid ((∀ k, k < v.K → (v.A k).ia = none → (v.V k).n = 0 ∧ (v.A k).ic = 0) ∧ (∀ k, k < v.K → (v.A k).ma = none → (v.V k).m = 0 ∧ (v.A k).mc = 0) ∧ (∀ k, k < v.K → (v.V k).n * 72 ≤ reachBytes) ∧ (∀ k, k < v.K → (v.V k).m * 8 ≤ reachBytes)) := ⟨hAk.ps.iz, hAk.ps.mz, hAk.ps.ib, hAk.ps.mb⟩
   have HNn : Hid (∀ k, k < v.K → ((v.V k).n : Int) ≤ 8796093022208) := fun k hk => by have : (v.V k).n * 72 ≤ 140737488351232 := hAk.ps.ib k hk; omega
   have HH := heavy6_any (HPs.out W1 gr0) hAk.ps.sz hAk.ps.ib hAk.ps.mb
   have hKc := hAk.ps.ps.le
   have hKm := hAk.ps.ps.max
   have hdc := hAk.d.le
   have hdm := hAk.d.max
   unfold maxLen at hKm hdm
   have HG1 : Hid (w.grownBy W1 none) := g1
   clear hAk hg g1 hW1 hB1
   by_cases hK3 : v.K ≤ 3000
   case neg =>
    have HH2 : Hid (Calls Tryz.prog 5 #[.slice v.a v.K v.c] W1 fun e w' => e = .returned (.bool true) ∧ W1.grownBy w' none) := HH.mono (by
     rintro e w' ⟨⟨bv, rfl, hbv⟩, hg⟩
     cases bv
     ·exact absurd (hbv rfl) hK3
     ·exact ⟨rfl, hg⟩)
    clear HH
    go_wp2_with (go_at_call 5; rw [← HW1.out.1]; refine HH2.out.mono ?_; rintro e w3 ⟨rfl, hg3⟩)
    go_ret
    exact ⟨rfl, grown_below6 (gtr HG1.out hg3)⟩
   have HH2 : Hid (Calls Tryz.prog 5 #[.slice v.a v.K v.c] W1 fun e w' => HvR6 v.K e ∧ W1.grownBy w' none) := HH
   clear HH
   by_cases hd3 : v.dn ≤ 3000
   case neg =>
    have hd3' : ¬ (v.dn : Int) ≤ 3000 := by omega
    go_wp2_with (go_at_call 5; rw [← HW1.out.1, ← HW1.out.2]; refine HH2.out.mono ?_; rintro e w3 ⟨⟨bv, rfl, hbv⟩, hg3⟩; have HG3 : Hid (W1.grownBy w3 none) := hg3; have d2 := hg3.cell b2 (by simp); clear hbv hg3)
    all_goals (
     go_ret
     exact ⟨rfl, grown_below6 (gtr HG1.out HG3.out)⟩)
   have hd3' : (v.dn : Int) ≤ 3000 := by omega
   go_wp2_with (go_at_call 5; rw [← HW1.out.1, ← HW1.out.2]; refine HH2.out.mono ?_; rintro e w3 ⟨⟨bv, rfl, hbv⟩, hg3⟩; have HG3 : Hid (W1.grownBy w3 none) := hg3; have d2 := hg3.cell b2 (by simp); have d1 := hg3.cell b1 (by simp); clear hbv hg3)
   ·go_ret
    exact ⟨rfl, grown_below6 (gtr HG1.out HG3.out)⟩
   have HCp : Hid (∀ W, W1.grownBy W none → Calls Tryz.prog 6 #[.slice v.a v.K v.c] W fun e w' => ∃ a' c' A', e = .returned (.slice a' v.K c') ∧ (PcsIn w'.heap.size w' a' v.K c' v.V A' ∧ ∀ k, k < v.K → (A' k).out = (v.A k).out) ∧ W.grownBy w' none) := fun W g => copyPieces_out (HPs.out W g) (Nat.le_trans HG1.out.size g.size) hK3 HQ.out.1 HQ.out.2.1 HQ.out.2.2.1 HQ.out.2.2.2
   have HCb : Hid (∀ W, W1.grownBy W none → Calls Tryz.prog 7 #[.slice v.da v.dn v.dc] W fun e w' => ∃ a' c', e = .returned (.slice a' v.dn c') ∧ BsIn w' a' v.dn c' v.dg ∧ W.grownBy w' none) := fun W g => (copyB v.dn v.dc v.da v.dg W (by omega) (HBs.out W g).nil (HBs.out W g).bs).mono (by
    rintro e w' ⟨x, rfl, ho, hg⟩
    obtain ⟨ao, cap, rfl, hb⟩ := ho.bsIn' (HBs.out W g).fit
    exact ⟨ao, cap, rfl, hb, hg⟩)
   have HC : Hid (∀ W, W1.grownBy W none → (W.cell? ⟨B1, 0, none⟩ = some (.int .i64 v.t) ∧ W.cell? ⟨B1, 1, none⟩ = some (.slice v.a v.K v.c)) ∧ W.cell? ⟨B1, 2, none⟩ = some (.slice v.da v.dn v.dc) ∧ W.cell? ⟨B1, 3, none⟩ = some (.int .i64 v.en)) := fun W g => ⟨⟨g.cell b0 (by simp), g.cell b1 (by simp)⟩, g.cell b2 (by simp), g.cell b3 (by simp)⟩
   go_wp2_with (first
    | (go_at_call 6; refine (HCp.out _ HG3.out).mono ?_; rintro e w4 ⟨qa, qc, A', rfl, hq, g4⟩; have H4 : Hid ((PcsIn w4.heap.size w4 qa v.K qc v.V A' ∧ ∀ k, k < v.K → (A' k).out = (v.A k).out) ∧ W1.grownBy w4 none) := ⟨hq, gtr HG3.out g4⟩; have e2 := (HC.out w4 H4.out.2).2.1; clear hq g4)
    | (go_at_call 7; refine (HCb.out _ H4.out.2).mono ?_; rintro e w5 ⟨da', dc', rfl, hb, g5⟩; have H5 : Hid (BsIn w5 da' v.dn dc' v.dg ∧ w4.grownBy w5 none) := ⟨hb, g5⟩; obtain ⟨⟨f0, f1⟩, f2, f3⟩ := HC.out w5 (gtr H4.out.2 g5); clear hb g5))
   have HG5 : Hid (W1.grownBy w5 none) := gtr H4.out.2 H5.out.2
   have hPq : PcsIn w5.heap.size w5 qa v.K qc v.V A' := (H4.out.1.1.grow H5.out.2).up H5.out.2.size
   have HKp : Hid (Kp w5 v qa da' qc dc') := ⟨fun W g => eqPieces_true (hPq.grow g) (HPs.out W (gtr HG5.out g)) (fun k hk => (H4.out.1.2 k hk).symm), fun W g => eqB_grow (by omega) (bs_grow H5.out.1.bs g) (HBs.out W (gtr HG5.out g)).bs⟩
   have HMay : Hid (∀ W, W1.grownBy W none → Calls Tryz.prog 11 #[.int .i64 v.t, .slice v.a v.K v.c, .int .i64 v.en] W fun e w' => e = .returned (.bool (formB v.t v.en v.K v.V)) ∧ W.grownBy w' none) := fun W g => may6_form (HPs.out W g)
   have HLn := link_ex (t := v.t) (en := v.en) hPq (HTb1.out _ HG5.out) HNn.out H5.out.1.nil H5.out.1.bs H5.out.1.lt (by omega)
   go_at_call 8
   refine HLn.mono ?_
   clear HLn
   rintro e w6 ⟨g6, hres⟩
   unfold LeRes errI at hres
   have HG6 : Hid (W1.grownBy w6 none) := gtr HG5.out g6
   have HG56 : Hid (w5.grownBy w6 none) := g6
   have hs5 := HG5.out.size
   have hs6 := g6.size
   clear hPq g6
   rcases hres with ⟨hno, rfl⟩ | ⟨hok, Ls, hL, ⟨hbig, rfl⟩ | ⟨hd9, hsm, cv, dv, TF, rfl, oc, od, of⟩⟩
   ·have hfb : formB v.t v.en v.K v.V = false := formB_no hno
    obtain ⟨W7, hW7⟩ : ∃ W7, W7 = w6.alloc (.cells #[.int .i64 0, .slice none 0 0, .slice none 0 0, .int .i64 0, .slice none 0 0] 32) := ⟨_, rfl⟩
    obtain ⟨J, hJ⟩ : ∃ J, J = w6.heap.size := ⟨_, rfl⟩
    have g7 : w6.grownBy W7 none := by rw [hW7]; exact gal
    have HJ : Hid (∀ W, W7.grownBy W none → ∀ j u, (#[.int .i64 0, .slice none 0 0, .slice none 0 0, .int .i64 0, .slice none 0 0] : Array Value)[j]? = some u → W.cell? ⟨J, j, none⟩ = some u) := fun W g j u hu => g.cell (by rw [hW7, hJ, ← hu]; exact cells_new _ _ rfl _) (by simp)
    have HW7 : Hid (W7 = w6.alloc (.cells #[.int .i64 0, .slice none 0 0, .slice none 0 0, .int .i64 0, .slice none 0 0] 32) ∧ J = w6.heap.size) := ⟨hW7, hJ⟩
    have HG7 : Hid (w5.grownBy W7 none ∧ W1.grownBy W7 none ∧ w6.grownBy W7 none) := ⟨gtr HG56.out g7, gtr HG6.out g7, g7⟩
    obtain ⟨⟨y0, y1⟩, y2, y3⟩ := HC.out W7 HG7.out.2.1
    rw [hW7] at y0 y1 y2 y3
    clear hW7 hJ g7
    have HEi : Hid (∀ W, Calls Tryz.prog 13 #[.agg #[.int .i64 0, .slice none 0 0, .slice none 0 0, .int .i64 0, .slice none 0 0], .agg #[.int .i64 0, .slice none 0 0, .slice none 0 0, .int .i64 0, .slice none 0 0]] W fun e w' => e = .returned (.bool true) ∧ W.grownBy w' none) := fun W => eqImage_true (N := 0) (N' := 0) (g := fun _ => 0) (g' := fun _ => 0) (h := fun _ => 0) (h' := fun _ => 0) (M := fun _ => 0) (M' := fun _ => 0) (.inl rfl) (.inl rfl) (fun _ _ => rfl) (.inl rfl) (.inl rfl) (fun _ _ => rfl) ⟨Nat.le_refl _, Nat.zero_le _, .inl rfl⟩ ⟨Nat.le_refl _, Nat.zero_le _, .inl rfl⟩ (fun _ _ => rfl) (by decide) (by decide)
    go_wp2_with (first
     | (go_at_call 9; rw [← HW7.out.1, ← HW7.out.2]; refine (HKp.out.ep _ HG7.out.1).mono ?_; rintro e w8 ⟨rfl, g8⟩; have H8 : Hid (W7.grownBy w8 none) := g8; obtain ⟨⟨p0, p1⟩, p2, p3⟩ := HC.out w8 (gtr HG7.out.2.1 g8); clear g8)
     | (go_at_call 10; refine (HKp.out.eb _ (gtr HG7.out.1 H8.out)).mono ?_; rintro e w9 ⟨rfl, g9⟩; have H9 : Hid (W7.grownBy w9 none) := gtr H8.out g9; obtain ⟨⟨r0, r1⟩, r2, r3⟩ := HC.out w9 (gtr HG7.out.2.1 H9.out); clear g9)
     | (go_at_call 11; refine (HMay.out _ (gtr HG7.out.2.1 H9.out)).mono ?_; rw [show formB v.t v.en v.K v.V = false from hfb]; rintro e w10 ⟨rfl, g10⟩; have H10 : Hid (W7.grownBy w10 none) := gtr H9.out g10; obtain ⟨⟨s0, s1⟩, s2, s3⟩ := HC.out w10 (gtr HG7.out.2.1 H10.out); have j0 := HJ.out w10 H10.out 0 _ rfl; have j1 := HJ.out w10 H10.out 1 _ rfl; have j2 := HJ.out w10 H10.out 2 _ rfl; have j3 := HJ.out w10 H10.out 3 _ rfl; have j4 := HJ.out w10 H10.out 4 _ rfl; clear g10)
     | (go_at_call 12; refine (HN.out _ _).mono ?_; rintro e w11 ⟨rfl, hw11⟩; rw [hw11]; clear hw11 w11)
     | (go_at_call 13; refine (HEi.out _).mono ?_; rintro e w12 ⟨rfl, g12⟩))
    go_roundw
    case rel => exact ⟨k + 1, by go_num, by omega, gtr HG1.out (gtr HG7.out.2.1 (gtr H10.out g12))⟩
    case measure => simp [intOf]; omega
   ·have hfb : formB v.t v.en v.K v.V = true := formB_iff.2 hok
    obtain ⟨n, hen⟩ : ∃ n : Nat, v.en = n := ⟨v.en.toNat, by have := hok.2.2.2.1; omega⟩
    have hnK : n < v.K := by have := hok.2.2.2.2.1; omega
    have hOk : ∀ k, k < v.K → (v.V k).Ok v.t v.K := fun k hk => Lk.PcV.ok_of (Lk.piecesB_iff.1 hok.2.2.2.2.2 k hk).1 (Lk.piecesB_iff.1 hok.2.2.2.2.2 k hk).2
    obtain ⟨W7, hW7⟩ : ∃ W7, W7 = w6.alloc (.cells #[.int .i64 0, .slice none 0 0, .slice none 0 0, .int .i64 0, .slice none 0 0] 32) := ⟨_, rfl⟩
    obtain ⟨J, hJ⟩ : ∃ J, J = w6.heap.size := ⟨_, rfl⟩
    have g7 : w6.grownBy W7 none := by rw [hW7]; exact gal
    have HJ : Hid (∀ W, W7.grownBy W none → ∀ j u, (#[.int .i64 0, .slice none 0 0, .slice none 0 0, .int .i64 0, .slice none 0 0] : Array Value)[j]? = some u → W.cell? ⟨J, j, none⟩ = some u) := fun W g j u hu => g.cell (by rw [hW7, hJ, ← hu]; exact cells_new _ _ rfl _) (by simp)
    have HW7 : Hid (W7 = w6.alloc (.cells #[.int .i64 0, .slice none 0 0, .slice none 0 0, .int .i64 0, .slice none 0 0] 32) ∧ J = w6.heap.size) := ⟨hW7, hJ⟩
    have HG7 : Hid (w5.grownBy W7 none ∧ W1.grownBy W7 none ∧ w6.grownBy W7 none) := ⟨gtr HG56.out g7, gtr HG6.out g7, g7⟩
    obtain ⟨⟨y0, y1⟩, y2, y3⟩ := HC.out W7 HG7.out.2.1
    rw [hW7] at y0 y1 y2 y3
    clear hW7 hJ g7
    have HEi : Hid (∀ W, Calls Tryz.prog 13 #[.agg #[.int .i64 0, .slice none 0 0, .slice none 0 0, .int .i64 0, .slice none 0 0], .agg #[.int .i64 0, .slice none 0 0, .slice none 0 0, .int .i64 0, .slice none 0 0]] W fun e w' => e = .returned (.bool true) ∧ W.grownBy w' none) := fun W => eqImage_true (N := 0) (N' := 0) (g := fun _ => 0) (g' := fun _ => 0) (h := fun _ => 0) (h' := fun _ => 0) (M := fun _ => 0) (M' := fun _ => 0) (.inl rfl) (.inl rfl) (fun _ _ => rfl) (.inl rfl) (.inl rfl) (fun _ _ => rfl) ⟨Nat.le_refl _, Nat.zero_le _, .inl rfl⟩ ⟨Nat.le_refl _, Nat.zero_le _, .inl rfl⟩ (fun _ _ => rfl) (by decide) (by decide)
    have HRf : Hid (∀ W, W1.grownBy W none → Calls Tryz.prog 14 #[.int .i64 v.t, .slice v.a v.K v.c, .slice v.da v.dn v.dc, .int .i64 v.en] W fun e w' => e = .returned (.tuple #[.agg #[.int .i64 0, .slice none 0 0, .slice none 0 0, .int .i64 0, .slice none 0 0], .bool false]) ∧ W.grownBy w' none) := fun W g => by
     rw [hen]
     refine (rlink_any hok.1 (HPs.out W g) (Nat.le_trans HG1.out.size g.size) hok.2.1 hok.2.2.1 hnK hOk hL HQ.out.2.2.1 (HBs.out W g) hd3).mono ?_
     rintro e w' ⟨hg, h1 | h1⟩
     ·exact ⟨h1.2, hg⟩
     ·have := h1.1
      omega
    have HSp : Hid (∀ W, Calls Tryz.prog 15 #[.agg #[.int .i64 0, .slice none 0 0, .slice none 0 0, .int .i64 0, .slice none 0 0]] W fun e w' => e = .returned (.tuple #[]) ∧ W.grownBy w' none) := fun W => (spoilI (base := W.heap.size) (g := fun _ => 0) (g' := fun _ => 0) (l := []) (Nat.le_refl _) (World.ownsRow_nil _ _ _ _) (World.ownsRow_nil _ _ _ _) (World.ownsRow_nil _ _ _ _) (by decide) (by decide) (by decide)).mono (by
     rintro e w' ⟨he, ls, hc, hl⟩
     exact ⟨he, hc.nil hl⟩)
    clear hOk hL hok hbig hen
    go_wp2_with (first
     | (go_at_call 9; rw [← HW7.out.1, ← HW7.out.2]; refine (HKp.out.ep _ HG7.out.1).mono ?_; rintro e w8 ⟨rfl, g8⟩; have H8 : Hid (W7.grownBy w8 none) := g8; obtain ⟨⟨p0, p1⟩, p2, p3⟩ := HC.out w8 (gtr HG7.out.2.1 g8); clear g8)
     | (go_at_call 10; refine (HKp.out.eb _ (gtr HG7.out.1 H8.out)).mono ?_; rintro e w9 ⟨rfl, g9⟩; have H9 : Hid (W7.grownBy w9 none) := gtr H8.out g9; obtain ⟨⟨r0, r1⟩, r2, r3⟩ := HC.out w9 (gtr HG7.out.2.1 H9.out); clear g9)
     | (go_at_call 11; refine (HMay.out _ (gtr HG7.out.2.1 H9.out)).mono ?_; rw [show formB v.t v.en v.K v.V = true from hfb]; rintro e w10 ⟨rfl, g10⟩; have H10 : Hid (W7.grownBy w10 none) := gtr H9.out g10; obtain ⟨⟨s0, s1⟩, s2, s3⟩ := HC.out w10 (gtr HG7.out.2.1 H10.out); clear g10)
     | (go_at_call 12; refine (HN.out _ _).mono ?_; rintro e wn ⟨rfl, hwn⟩; rw [hwn]; clear hwn wn)
     | (go_at_call 14; refine (HRf.out _ (gtr HG7.out.2.1 H10.out)).mono ?_; rintro e w11 ⟨rfl, g11⟩; have H12 : Hid (W7.grownBy (w11.alloc (.cells #[.int .i64 0, .slice none 0 0, .slice none 0 0, .int .i64 0, .slice none 0 0] 32)) none) := ga (gtr H10.out g11) _; have j0 := HJ.out (w11.alloc (.cells #[.int .i64 0, .slice none 0 0, .slice none 0 0, .int .i64 0, .slice none 0 0] 32)) H12.out 0 _ rfl; have j1 := HJ.out (w11.alloc (.cells #[.int .i64 0, .slice none 0 0, .slice none 0 0, .int .i64 0, .slice none 0 0] 32)) H12.out 1 _ rfl; have j2 := HJ.out (w11.alloc (.cells #[.int .i64 0, .slice none 0 0, .slice none 0 0, .int .i64 0, .slice none 0 0] 32)) H12.out 2 _ rfl; have j3 := HJ.out (w11.alloc (.cells #[.int .i64 0, .slice none 0 0, .slice none 0 0, .int .i64 0, .slice none 0 0] 32)) H12.out 3 _ rfl; have j4 := HJ.out (w11.alloc (.cells #[.int .i64 0, .slice none 0 0, .slice none 0 0, .int .i64 0, .slice none 0 0] 32)) H12.out 4 _ rfl;  clear g11)
     | (go_at_call 13; refine (HEi.out _).mono ?_; rintro e w12 ⟨rfl, g12⟩; have H13 : Hid (W7.grownBy w12 none) := gtr H12.out g12; have i0 := HJ.out w12 H13.out 0 _ rfl; have i1 := HJ.out w12 H13.out 1 _ rfl; have i2 := HJ.out w12 H13.out 2 _ rfl; have i3 := HJ.out w12 H13.out 3 _ rfl; have i4 := HJ.out w12 H13.out 4 _ rfl; clear g12)
     | (go_at_call 15; refine (HSp.out _).mono ?_; rintro e w13 ⟨rfl, g13⟩; have H14 : Hid (w5.grownBy w13 none ∧ W1.grownBy w13 none) := ⟨gtr HG7.out.1 (gtr H13.out g13), gtr HG7.out.2.1 (gtr H13.out g13)⟩; obtain ⟨⟨o0, o1⟩, o2, o3⟩ := HC.out w13 H14.out.2; clear g13)
     | (go_at_call 9; refine (HKp.out.ep _ H14.out.1).mono ?_; rintro e w14 ⟨rfl, g14⟩; have H15 : Hid (w5.grownBy w14 none ∧ W1.grownBy w14 none) := ⟨gtr H14.out.1 g14, gtr H14.out.2 g14⟩; obtain ⟨⟨n0, n1⟩, n2, n3⟩ := HC.out w14 H15.out.2; clear g14)
     | (go_at_call 10; refine (HKp.out.eb _ H15.out.1).mono ?_; rintro e w15 ⟨rfl, g15⟩))
    go_roundw
    case rel => exact ⟨k + 1, by go_num, by omega, gtr HG1.out (gtr H15.out.2 g15)⟩
    case measure => simp [intOf]; omega
   ·have hfb : formB v.t v.en v.K v.V = true := formB_iff.2 hok
    obtain ⟨n, hen⟩ : ∃ n : Nat, v.en = n := ⟨v.en.toNat, by have := hok.2.2.2.1; omega⟩
    have hnK : n < v.K := by have := hok.2.2.2.2.1; omega
    have hOk : ∀ k, k < v.K → (v.V k).Ok v.t v.K := fun k hk => Lk.PcV.ok_of (Lk.piecesB_iff.1 hok.2.2.2.2.2 k hk).1 (Lk.piecesB_iff.1 hok.2.2.2.2.2 k hk).2
    obtain ⟨L, hLL⟩ : ∃ L, L = Lk.codeA v.t v.V (Lk.SS v.t v.V Ls) v.K := ⟨_, rfl⟩
    obtain ⟨F, hF⟩ : ∃ F, F = Lk.pos (ends v.V (Lk.SS v.t v.V Ls)) v.en.toNat := ⟨_, rfl⟩
    obtain ⟨S, hS⟩ : ∃ S, S = Lk.pos (ends v.V (Lk.SS v.t v.V Ls)) := ⟨_, rfl⟩
    have hLn : (L.length : Int) ≤ 1048576 := by
     have hld : Lk.Lkd v.t v.K v.V Ls := ⟨hOk, hL, fun k hk i hi => by obtain ⟨_, _, _, _, hp⟩ := (HPs.out _ HG6.out).at hk; exact hp.ins.rng i hi, hsm⟩
     have := hld.lenA (Nat.le_refl _)
     rw [hLL]
     omega
    have hFn : Lk.pos (ends v.V (Lk.SS v.t v.V Ls)) n = F := by rw [hF, hen]; rfl
    rw [← hLL] at oc
    rw [← hF]
    rw [← hS] at of
    obtain ⟨ca, cc, hcv, _, _, _, hbc⟩ := oc.toB.shape
    subst hcv
    obtain ⟨dx, dz, hdv, _, _, _, hbd⟩ := od.shape
    subst hdv
    have hK33 := hok.2.2.1
    have ofz := of.z
    obtain ⟨fa9, fc9, hf9, hnf⟩ := ofz.numIn (M := S) (n := v.K) (by simp) (fun i hi => by simp [List.getD_eq_getElem?_getD, hi])
    simp at hf9
    obtain ⟨rfl, rfl⟩ := hf9
    obtain ⟨W7, hW7⟩ : ∃ W7, W7 = w6.alloc (.cells #[.int .i64 v.t, .slice ca L.length cc, .slice dx v.dn dz, .int .i64 F, .slice (some ⟨TF, 0, none⟩) v.K v.K] 32) := ⟨_, rfl⟩
    obtain ⟨J, hJ⟩ : ∃ J, J = w6.heap.size := ⟨_, rfl⟩
    have g7 : w6.grownBy W7 none := by rw [hW7]; exact gal
    have HJ : Hid (∀ W, W7.grownBy W none → ∀ j u, (#[.int .i64 v.t, .slice ca L.length cc, .slice dx v.dn dz, .int .i64 F, .slice (some ⟨TF, 0, none⟩) v.K v.K] : Array Value)[j]? = some u → W.cell? ⟨J, j, none⟩ = some u) := fun W g j u hu => g.cell (by rw [hW7, hJ, ← hu]; exact cells_new _ _ rfl _) (by simp)
    have HW7 : Hid (W7 = w6.alloc (.cells #[.int .i64 v.t, .slice ca L.length cc, .slice dx v.dn dz, .int .i64 F, .slice (some ⟨TF, 0, none⟩) v.K v.K] 32) ∧ J = w6.heap.size) := ⟨hW7, hJ⟩
    have HG7 : Hid (w5.grownBy W7 none ∧ W1.grownBy W7 none ∧ w6.grownBy W7 none) := ⟨gtr HG56.out g7, gtr HG6.out g7, g7⟩
    obtain ⟨⟨y0, y1⟩, y2, y3⟩ := HC.out W7 HG7.out.2.1
    rw [hW7] at y0 y1 y2 y3
    clear hW7 hJ g7
    have HEi : Hid (∀ W ca2 cc2 da2 dc2 fa2 fc2, w6.grownBy W none → Bs W ca2 L.length (fun i => L.getD i 0) → Bs W da2 v.dn v.dg → NumIn W.heap.size W fa2 v.K fc2 S → Calls Tryz.prog 13 #[.agg #[.int .i64 v.t, .slice ca L.length cc, .slice dx v.dn dz, .int .i64 F, .slice (some ⟨TF, 0, none⟩) v.K v.K], .agg #[.int .i64 v.t, .slice ca2 L.length cc2, .slice da2 v.dn dc2, .int .i64 F, .slice fa2 v.K fc2]] W fun e w' => e = .returned (.bool true) ∧ W.grownBy w' none) := fun W ca2 cc2 da2 dc2 fa2 fc2 g h1 h2 h3 => eqImage_true (bs_grow hbc g) h1 (fun _ _ => rfl) (bs_grow hbd g) h2 (fun _ _ => rfl) (hnf.grow g) h3 (fun _ _ => rfl) (by omega) (by omega)
    have HRf : Hid (∀ W, W1.grownBy W none → Calls Tryz.prog 14 #[.int .i64 v.t, .slice v.a v.K v.c, .slice v.da v.dn v.dc, .int .i64 v.en] W fun e w' => ∃ ca2 cc2 da2 dc2 fa2 fc2, e = .returned (.tuple #[.agg #[.int .i64 v.t, .slice ca2 L.length cc2, .slice da2 v.dn dc2, .int .i64 F, .slice fa2 v.K fc2], .bool true]) ∧ (Bs w' ca2 L.length (fun i => L.getD i 0) ∧ Bs w' da2 v.dn v.dg ∧ NumIn w'.heap.size w' fa2 v.K fc2 S) ∧ W.grownBy w' none) := fun W g => by
     rw [hen]
     refine (rlink_any hok.1 (HPs.out W g) (Nat.le_trans HG1.out.size g.size) hok.2.1 hok.2.2.1 hnK hOk hL HQ.out.2.2.1 (HBs.out W g) hd3).mono ?_
     rintro e w' ⟨hg, h1 | ⟨_, cv2, dv2, fv2, he, o1, o2, o3⟩⟩
     ·have := h1.1
      omega
     ·rw [hFn] at he
      rw [← hLL] at o1
      rw [← hS] at o3
      obtain ⟨ca2, cc2, hc2, _, _, _, hb2⟩ := o1.toB.shape
      subst hc2
      obtain ⟨da2, dc2, hd2, _, _, _, hb3⟩ := o2.shape
      subst hd2
      obtain ⟨fa2, fc2, hf2, hn2⟩ := o3.numIn (M := S) (n := v.K) (by simp) (fun i hi => by simp [List.getD_eq_getElem?_getD, hi])
      subst hf2
      exact ⟨ca2, cc2, da2, dc2, fa2, fc2, he, ⟨hb2, hb3, hn2⟩, hg⟩
    have HSp : Hid (∀ W, w6.grownBy W none → Calls Tryz.prog 15 #[.agg #[.int .i64 v.t, .slice ca L.length cc, .slice dx v.dn dz, .int .i64 F, .slice (some ⟨TF, 0, none⟩) v.K v.K]] W fun e w' => e = .returned (.tuple #[]) ∧ ∃ ls, Ch W w' ls ∧ ∀ k, k ∈ ls → w5.heap.size ≤ k) := fun W g => spoilI (base := w5.heap.size) (Nat.le_trans hs6 g.size) (oc.toB.kept g (Classical.em _)) (od.kept g (Classical.em _)) (ofz.grow g) hLn (by omega) (by simp; omega)
    clear hOk hL hok hsm oc od of ofz hbc hbd hnf hLL hF hS hFn hd9 hen
    go_wp2_with (first
     | (go_at_call 9; rw [← HW7.out.1, ← HW7.out.2]; refine (HKp.out.ep _ HG7.out.1).mono ?_; rintro e w8 ⟨rfl, g8⟩; have H8 : Hid (W7.grownBy w8 none) := g8; obtain ⟨⟨p0, p1⟩, p2, p3⟩ := HC.out w8 (gtr HG7.out.2.1 g8); clear g8)
     | (go_at_call 10; refine (HKp.out.eb _ (gtr HG7.out.1 H8.out)).mono ?_; rintro e w9 ⟨rfl, g9⟩; have H9 : Hid (W7.grownBy w9 none) := gtr H8.out g9; obtain ⟨⟨r0, r1⟩, r2, r3⟩ := HC.out w9 (gtr HG7.out.2.1 H9.out); clear g9)
     | (go_at_call 11; refine (HMay.out _ (gtr HG7.out.2.1 H9.out)).mono ?_; rw [show formB v.t v.en v.K v.V = true from hfb]; rintro e w10 ⟨rfl, g10⟩; have H10 : Hid (W7.grownBy w10 none) := gtr H9.out g10; obtain ⟨⟨s0, s1⟩, s2, s3⟩ := HC.out w10 (gtr HG7.out.2.1 H10.out); clear g10)
     | (go_at_call 12; refine (HN.out _ _).mono ?_; rintro e wn ⟨rfl, hwn⟩; rw [hwn]; clear hwn wn)
     | (go_at_call 14; refine (HRf.out _ (gtr HG7.out.2.1 H10.out)).mono ?_; rintro e w11 ⟨ca2, cc2, da2, dc2, fa2, fc2, rfl, hb2, g11⟩; have HB2 : Hid (Bs w11 ca2 L.length (fun i => L.getD i 0) ∧ Bs w11 da2 v.dn v.dg ∧ NumIn w11.heap.size w11 fa2 v.K fc2 S) := hb2; clear hb2; have H12 : Hid (W7.grownBy (w11.alloc (.cells #[.int .i64 v.t, .slice ca2 L.length cc2, .slice da2 v.dn dc2, .int .i64 F, .slice fa2 v.K fc2] 32)) none) := ga (gtr H10.out g11) _; have j0 := HJ.out (w11.alloc (.cells #[.int .i64 v.t, .slice ca2 L.length cc2, .slice da2 v.dn dc2, .int .i64 F, .slice fa2 v.K fc2] 32)) H12.out 0 _ rfl; have j1 := HJ.out (w11.alloc (.cells #[.int .i64 v.t, .slice ca2 L.length cc2, .slice da2 v.dn dc2, .int .i64 F, .slice fa2 v.K fc2] 32)) H12.out 1 _ rfl; have j2 := HJ.out (w11.alloc (.cells #[.int .i64 v.t, .slice ca2 L.length cc2, .slice da2 v.dn dc2, .int .i64 F, .slice fa2 v.K fc2] 32)) H12.out 2 _ rfl; have j3 := HJ.out (w11.alloc (.cells #[.int .i64 v.t, .slice ca2 L.length cc2, .slice da2 v.dn dc2, .int .i64 F, .slice fa2 v.K fc2] 32)) H12.out 3 _ rfl; have j4 := HJ.out (w11.alloc (.cells #[.int .i64 v.t, .slice ca2 L.length cc2, .slice da2 v.dn dc2, .int .i64 F, .slice fa2 v.K fc2] 32)) H12.out 4 _ rfl;  clear g11)
     | (go_at_call 13; refine (HEi.out _ ca2 cc2 da2 dc2 fa2 fc2 (gtr HG7.out.2.2 H12.out) (bs_grow HB2.out.1 gal) (bs_grow HB2.out.2.1 gal) ((HB2.out.2.2.grow gal).up (by simp))).mono ?_; rintro e w12 ⟨rfl, g12⟩; have H13 : Hid (W7.grownBy w12 none) := gtr H12.out g12; have i0 := HJ.out w12 H13.out 0 _ rfl; have i1 := HJ.out w12 H13.out 1 _ rfl; have i2 := HJ.out w12 H13.out 2 _ rfl; have i3 := HJ.out w12 H13.out 3 _ rfl; have i4 := HJ.out w12 H13.out 4 _ rfl; clear g12)
     | (go_at_call 15; refine (HSp.out _ (gtr HG7.out.2.2 H13.out)).mono ?_; rintro e w13 ⟨rfl, ls, hch, hls⟩; have H14a : Hid (w5.grownBy w13 none) := ((Ch.of (gtr HG7.out.1 H13.out)).trans hch).nil hls; have H14 : Hid (w5.grownBy w13 none ∧ W1.grownBy w13 none) := ⟨H14a.out, gtr HG5.out H14a.out⟩; obtain ⟨⟨o0, o1⟩, o2, o3⟩ := HC.out w13 H14.out.2; clear hch hls)
     | (go_at_call 9; refine (HKp.out.ep _ H14.out.1).mono ?_; rintro e w14 ⟨rfl, g14⟩; have H15 : Hid (w5.grownBy w14 none ∧ W1.grownBy w14 none) := ⟨gtr H14.out.1 g14, gtr H14.out.2 g14⟩; obtain ⟨⟨n0, n1⟩, n2, n3⟩ := HC.out w14 H15.out.2; clear g14)
     | (go_at_call 10; refine (HKp.out.eb _ H15.out.1).mono ?_; rintro e w15 ⟨rfl, g15⟩))
    go_roundw
    case rel => exact ⟨k + 1, by go_num, by omega, gtr HG1.out (gtr H15.out.2 g15)⟩
    case measure => simp [intOf]; omega
end Go.Proofs.YtkiockffejlnhaaGreatDoor
