/- LinkDecodes: the walk. -/
import Derived.Test.YtkiockffejlnhaaGreatDoorG24
import Derived.Test.YtkiockffejlnhaaGreatDoorG28
import Derived.Test.YtkiockffejlnhaaGreatDoorG29
import Derived.Deep.DeepCutAuto
namespace Go.Proofs.YtkiockffejlnhaaGreatDoor
open Go.RowKit
set_option linter.unusedVariables false
theorem grown_below6 {w w' : World} (g : w.grownBy w' none) : Below w.heap.size w w' := (Below.refl _ _).grown g (Nat.le_refl _) (by simp)
theorem AkAt.grow {w w' : World} {b o : Nat} {v : AkV} (h : AkAt w b o v) (hg : w.grownBy w' none) : w'.cell? ⟨b, o, none⟩ = some (.int .i64 v.t) ∧ w'.cell? ⟨b, o + 1, none⟩ = some (.slice v.a v.K v.c) ∧ w'.cell? ⟨b, o + 2, none⟩ = some (.slice v.da v.dn v.dc) ∧ w'.cell? ⟨b, o + 3, none⟩ = some (.int .i64 v.en) :=
  ⟨hg.cell h.c0 (by simp), hg.cell h.c1 (by simp), hg.cell h.c2 (by simp), hg.cell h.c3 (by simp)⟩
def Cut7 (v : AkV) (W1 : World) (p e : Value) (wx : World) : Prop :=
  ∃ IB : Nat, p = .pointer (some ⟨IB, 0, none⟩) ∧ W1.grownBy wx none ∧ ((¬ okD v ∧ ∃ E : Int, (E = 60 ∨ E = 61) ∧ e = .int .i64 E) ∨ (okD v ∧ e = .int .i64 0 ∧ ∃ n Ls cv dv TF, wx.rowIs IB 32 5 (row5 (.int .i64 v.t) cv dv (.int .i64 (Lk.pos (ends v.V (Lk.SS v.t v.V Ls)) n)) (.slice (some ⟨TF, 0, none⟩) v.K v.K)) ∧ ImgY v n Ls cv dv TF W1.heap.size wx))
theorem cut_no {v : AkV} {W1 W0 : World} {IB : Nat} {E : Int} {f : Nat → Value} (hno : ¬ okD v) (hE : E = 60 ∨ E = 61) (g : W1.grownBy W0 none) (hb : W1.heap.size ≤ IB) (x0 x1 x2 x3 x4 : Value) : Cut7 v W1 (.pointer (some ⟨IB, 0, none⟩)) (.int .i64 E) (put5 W0 IB x0 x1 x2 x3 x4) :=
  ⟨IB, rfl, grown_two g (grown_put5 _ _ _ _ _ _ _) hb, .inl ⟨hno, E, hE, rfl⟩⟩
theorem cut_yes {v : AkV} {W1 W0 : World} {IB n TF : Nat} {Ls : Nat → Nat → Bool} {cv dv : Value} {f : Nat → Value} (hok : okD v) (g : W1.grownBy W0 none) (hb : W1.heap.size ≤ IB) (hr : W0.rowIs IB 32 5 f) (hi : ImgY v n Ls cv dv TF W1.heap.size W0) : Cut7 v W1 (.pointer (some ⟨IB, 0, none⟩)) (.int .i64 0) (put5 W0 IB (.int .i64 v.t) cv dv (.int .i64 (Lk.pos (ends v.V (Lk.SS v.t v.V Ls)) n)) (.slice (some ⟨TF, 0, none⟩) v.K v.K)) := by
  obtain ⟨h1, h2, h3⟩ := img_put g hb hb hr hi (.int .i64 v.t) cv dv (.int .i64 (Lk.pos (ends v.V (Lk.SS v.t v.V Ls)) n)) (.slice (some ⟨TF, 0, none⟩) v.K v.K)
  exact ⟨IB, rfl, h3, .inr ⟨hok, rfl, n, Ls, cv, dv, TF, h1, h2⟩⟩
set_option maxRecDepth 100000 in
set_option maxHeartbeats 16000000 in
theorem linkDecodes_walk (a : Option Addr) (len cap : Nat) (V : Nat → AkV) (w : World) (hT : TabAt w) (hl : RowB 4 64 AkAt w a len cap V) :
    Calls Tryz.prog 4 #[.slice a len cap] w fun e w' => e = .returned (.bool true) ∧ Below w.heap.size w w' := by
  have HW : Hid (∀ W, w.grownBy W none → Calls Tryz.prog 16 #[] W fun r w' => r = .returned (.bool true) ∧ W.grownBy w' none) := fun W g => wakes6_any W (hT.kept g (by simp))
  have HN : Hid (∀ x W, Calls Tryz.prog 12 #[.int .i64 x] W fun e w' => e = .returned (.int .i64 x) ∧ w' = W) := num6_any
  have HTb : Hid (∀ W, w.grownBy W none → TabAt W) := fun W g => hT.kept g (by simp)
  have hfit : len * 64 ≤ 140737488351232 := hl.fits
  have hfit' : (len : Int) ≤ 140737488351232 := by omega
  clear hT
  rcases hl.bs with h0 | ⟨b, off, rfl, hlt, hV⟩
  · subst h0
    go_enter Tryz.func4, Tryz.ntmps4
    go_wp2_with fail
    refine wp_loop_once ?_
    go_wp2_with (go_at_call 16; refine (HW.out _ (World.grownBy.refl _ _)).mono ?_; rintro r w1 ⟨rfl, g1⟩)
    go_ret
    exact ⟨rfl, grown_below6 g1⟩
  · have HV : Hid (∀ i, i < len → AkAt w b (off + i * 4) (V i)) := hV
    have hle := hl.le
    clear hV hl
    go_enter Tryz.func4, Tryz.ntmps4
    go_wp2_with fail
    go_loopw [3] (fun ix wr => ∃ k : Nat, ix = .int .i64 k ∧ k ≤ len ∧ w.grownBy wr none) (fun ix _ => len - (intOf ix).toNat)
    case atStart => exact ⟨0, rfl, Nat.zero_le _, World.grownBy.refl _ _⟩
    case round =>
      obtain ⟨k, rfl, hk, hg⟩ := hrel
      obtain ⟨wo, hwo⟩ : ∃ wo, wo = wr := ⟨_, rfl⟩
      rw [← hwo] at hg ⊢
      clear hwo
      have HG : Hid (w.grownBy wo none) := hg
      by_cases hkl : k < len
      case neg =>
        have hkl' : ¬ (k : Int) < len := by omega
        clear hg
        go_wp2_with (go_at_call 16; refine (HW.out _ HG.out).mono ?_; rintro r w1 ⟨rfl, g1⟩)
        go_ret
        exact ⟨rfl, grown_below6 (grown_trans HG.out g1)⟩
      have hkl' : (k : Int) < len := by omega
      by_cases hk6 : k < 6
      case neg =>
        have hk6' : ¬ (k : Int) < 6 := by omega
        clear hg
        go_wp2_with (go_at_call 16; refine (HW.out _ HG.out).mono ?_; rintro r w1 ⟨rfl, g1⟩)
        go_ret
        exact ⟨rfl, grown_below6 (grown_trans HG.out g1)⟩
      have hk6' : (k : Int) < 6 := by omega
      have hAk := HV.out k hkl
      obtain ⟨t0, t1, t2, t3⟩ := hAk.grow hg
      have hsz := hg.size
      generalize V k = v at *
      obtain ⟨W1, hW1⟩ : ∃ W1, W1 = wo.alloc (.cells #[.int .i64 v.t, .slice v.a v.K v.c, .slice v.da v.dn v.dc, .int .i64 v.en] 26) := ⟨_, rfl⟩
      obtain ⟨B1, hB1⟩ : ∃ B1, B1 = wo.heap.size := ⟨_, rfl⟩
      have g1 : w.grownBy W1 none := by rw [hW1]; exact ga hg _
      have HW1 : Hid (W1 = wo.alloc (.cells #[.int .i64 v.t, .slice v.a v.K v.c, .slice v.da v.dn v.dc, .int .i64 v.en] 26) ∧ B1 = wo.heap.size) := ⟨hW1, hB1⟩
      have hs1 : W1.heap.size = B1 + 1 := by rw [hW1, hB1]; simp
      have b0 : W1.cell? ⟨B1, 0, none⟩ = some (.int .i64 v.t) := by rw [hW1, hB1]; exact cells_new _ _ rfl _
      have b1 : W1.cell? ⟨B1, 1, none⟩ = some (.slice v.a v.K v.c) := by rw [hW1, hB1]; exact cells_new _ _ rfl _
      have b2 : W1.cell? ⟨B1, 2, none⟩ = some (.slice v.da v.dn v.dc) := by rw [hW1, hB1]; exact cells_new _ _ rfl _
      have b3 : W1.cell? ⟨B1, 3, none⟩ = some (.int .i64 v.en) := by rw [hW1, hB1]; exact cells_new _ _ rfl _
      have HPs : Hid (∀ W, W1.grownBy W none → PcsIn w.heap.size W v.a v.K v.c v.V v.A) := fun W g => hAk.ps.ps.grow (grown_trans g1 g)
      have HBs : Hid (∀ W, W1.grownBy W none → BsIn W v.da v.dn v.dc v.dg) := fun W g => hAk.d.kept (grown_trans g1 g)
      have HTb1 : Hid (∀ W, W1.grownBy W none → TabAt W) := fun W g => HTb.out W (grown_trans g1 g)
      have HQ : Hid ((∀ k, k < v.K → (v.A k).ia = none → (v.V k).n = 0 ∧ (v.A k).ic = 0) ∧ (∀ k, k < v.K → (v.A k).ma = none → (v.V k).m = 0 ∧ (v.A k).mc = 0) ∧ (∀ k, k < v.K → (v.V k).n * 72 ≤ reachBytes) ∧ (∀ k, k < v.K → (v.V k).m * 8 ≤ reachBytes)) := ⟨hAk.ps.iz, hAk.ps.mz, hAk.ps.ib, hAk.ps.mb⟩
      have HNn : Hid (∀ k, k < v.K → ((v.V k).n : Int) ≤ 8796093022208) := fun k hk => by have : (v.V k).n * 72 ≤ 140737488351232 := hAk.ps.ib k hk; omega
      have HH := heavy6_any (HPs.out W1 (World.grownBy.refl _ _)) hAk.ps.sz hAk.ps.ib hAk.ps.mb
      have hKc := hAk.ps.ps.le
      have hKm := hAk.ps.ps.max
      have hdc := hAk.d.le
      have hdm := hAk.d.max
      unfold maxLen at hKm hdm
      have HG1 : Hid (w.grownBy W1 none) := g1
      clear hAk hg g1 hW1 hB1
      by_cases hK3 : v.K ≤ 3000
      case neg =>
        have HH2 : Hid (Calls Tryz.prog 5 #[.slice v.a v.K v.c] W1 fun e w' => e = .returned (.bool true) ∧ W1.grownBy w' none) := HH.mono (by
          rintro e w' ⟨⟨bv, rfl, hbv⟩, hg⟩
          cases bv
          · exact absurd (hbv rfl) hK3
          · exact ⟨rfl, hg⟩)
        clear HH
        go_wp2_with (go_at_call 5; rw [← HW1.out.1]; refine HH2.out.mono ?_; rintro e w3 ⟨rfl, hg3⟩)
        go_ret
        exact ⟨rfl, grown_below6 (grown_trans HG1.out hg3)⟩
      have HH2 : Hid (Calls Tryz.prog 5 #[.slice v.a v.K v.c] W1 fun e w' => HvR6 v.K e ∧ W1.grownBy w' none) := HH
      clear HH
      by_cases hd3 : v.dn ≤ 3000
      case neg =>
        have hd3' : ¬ (v.dn : Int) ≤ 3000 := by omega
        go_wp2_with (go_at_call 5; rw [← HW1.out.1, ← HW1.out.2]; refine HH2.out.mono ?_; rintro e w3 ⟨⟨bv, rfl, hbv⟩, hg3⟩; have HG3 : Hid (W1.grownBy w3 none) := hg3; have d2 := hg3.cell b2 (by simp); clear hbv hg3)
        all_goals (
          go_ret
          exact ⟨rfl, grown_below6 (grown_trans HG1.out HG3.out)⟩)
      have hd3' : (v.dn : Int) ≤ 3000 := by omega
      go_wp2_with (go_at_call 5; rw [← HW1.out.1, ← HW1.out.2]; refine HH2.out.mono ?_; rintro e w3 ⟨⟨bv, rfl, hbv⟩, hg3⟩; have HG3 : Hid (W1.grownBy w3 none) := hg3; have d2 := hg3.cell b2 (by simp); clear hbv hg3)
      · go_ret
        exact ⟨rfl, grown_below6 (grown_trans HG1.out HG3.out)⟩
      go_cut [5, 6] (fun p e wx => Cut7 v W1 p e wx)
      case first =>
        refine region_late 15 13 _ _ _ (psiD v B1 W1.heap.size) (by kernel_rfl) (by kernel_rfl) rfl rfl rfl (by kernel_rfl) (by kernel_rfl) (fun i x w0 w1 hi h g => psiD_stable h g) ?_ ?_ ?_
        · simp only [List.take_succ_cons, List.take_zero]
          refine ⟨?_, ?_, ?_, ?_, ?_, ?_, ?_, ?_, ?_, ?_, ?_, ?_, ?_, ?_, ?_, trivial⟩
          · intro VV W0 AA g hV hs hz
            have e0 := hz 4 (.pointer (some ⟨B1, 0, none⟩)) (by kernel_rfl) rfl
            clear hV hs hz
            refine outO_val (v := .pointer (some ⟨B1, 0, none⟩)) (w' := W0) ?_ (World.grownBy.refl _ _) rfl
            simp [go_sem, e0]
          · intro VV W0 AA g hV hs hz
            have gD : W1.grownBy W0 none := grown_trans HG3.out (grown_trans (grown_drew (World.grownBy.refl _ none)) g)
            have q0 : VV 0 = .pointer (some ⟨B1, 0, none⟩) := hV 0 (by kernel_rfl)
            have e0 := hs 40 0 (by kernel_rfl) (by kernel_rfl)
            have x0 := gD.cell b0 (by simp)
            clear hV hs hz
            refine outO_val (v := .int .i64 v.t) (w' := W0) ?_ (World.grownBy.refl _ _) rfl
            simp [go_sem, q0, e0, x0]
          · intro VV W0 AA g hV hs hz
            have e0 := hz 4 (.pointer (some ⟨B1, 0, none⟩)) (by kernel_rfl) rfl
            clear hV hs hz
            refine outO_val (v := .pointer (some ⟨B1, 1, none⟩)) (w' := W0) ?_ (World.grownBy.refl _ _) rfl
            simp [go_sem, e0]
          · intro VV W0 AA g hV hs hz
            have gD : W1.grownBy W0 none := grown_trans HG3.out (grown_trans (grown_drew (World.grownBy.refl _ none)) g)
            have q0 : VV 2 = .pointer (some ⟨B1, 1, none⟩) := hV 2 (by kernel_rfl)
            have e0 := hs 42 2 (by kernel_rfl) (by kernel_rfl)
            have x0 := gD.cell b1 (by simp)
            clear hV hs hz
            refine outO_val (v := .slice v.a v.K v.c) (w' := W0) ?_ (World.grownBy.refl _ _) rfl
            simp [go_sem, q0, e0, x0]
          · intro VV W0 AA g hV hs hz
            have gD : W1.grownBy W0 none := grown_trans HG3.out (grown_trans (grown_drew (World.grownBy.refl _ none)) g)
            have q3 : VV 3 = .slice v.a v.K v.c := hV 3 (by kernel_rfl)
            have e3 := hs 43 3 (by kernel_rfl) (by kernel_rfl)
            clear hV hs hz
            refine outO_call (f := 6) ?_ (callPs (HPs.out _ gD) (by have h1 := gD.size; have h2 := HG1.out.size; omega) hK3 HQ.out.1 HQ.out.2.1 HQ.out.2.2.1 HQ.out.2.2.2)
            simp [go_sem, q3, e3]
          · intro VV W0 AA g hV hs hz
            have e0 := hz 4 (.pointer (some ⟨B1, 0, none⟩)) (by kernel_rfl) rfl
            clear hV hs hz
            refine outO_val (v := .pointer (some ⟨B1, 2, none⟩)) (w' := W0) ?_ (World.grownBy.refl _ _) rfl
            simp [go_sem, e0]
          · intro VV W0 AA g hV hs hz
            have gD : W1.grownBy W0 none := grown_trans HG3.out (grown_trans (grown_drew (World.grownBy.refl _ none)) g)
            have q0 : VV 5 = .pointer (some ⟨B1, 2, none⟩) := hV 5 (by kernel_rfl)
            have e0 := hs 45 5 (by kernel_rfl) (by kernel_rfl)
            have x0 := gD.cell b2 (by simp)
            clear hV hs hz
            refine outO_val (v := .slice v.da v.dn v.dc) (w' := W0) ?_ (World.grownBy.refl _ _) rfl
            simp [go_sem, q0, e0, x0]
          · intro VV W0 AA g hV hs hz
            have gD : W1.grownBy W0 none := grown_trans HG3.out (grown_trans (grown_drew (World.grownBy.refl _ none)) g)
            have q6 : VV 6 = .slice v.da v.dn v.dc := hV 6 (by kernel_rfl)
            have e6 := hs 46 6 (by kernel_rfl) (by kernel_rfl)
            clear hV hs hz
            refine outO_call (f := 7) ?_ (callBs (HBs.out _ gD) (by omega))
            simp [go_sem, q6, e6]
          · intro VV W0 AA g hV hs hz
            have e0 := hz 4 (.pointer (some ⟨B1, 0, none⟩)) (by kernel_rfl) rfl
            clear hV hs hz
            refine outO_val (v := .pointer (some ⟨B1, 3, none⟩)) (w' := W0) ?_ (World.grownBy.refl _ _) rfl
            simp [go_sem, e0]
          · intro VV W0 AA g hV hs hz
            have gD : W1.grownBy W0 none := grown_trans HG3.out (grown_trans (grown_drew (World.grownBy.refl _ none)) g)
            have q0 : VV 8 = .pointer (some ⟨B1, 3, none⟩) := hV 8 (by kernel_rfl)
            have e0 := hs 48 8 (by kernel_rfl) (by kernel_rfl)
            have x0 := gD.cell b3 (by simp)
            clear hV hs hz
            refine outO_val (v := .int .i64 v.en) (w' := W0) ?_ (World.grownBy.refl _ _) rfl
            simp [go_sem, q0, e0, x0]
          · intro VV W0 AA g hV hs hz
            have gD : W1.grownBy W0 none := grown_trans HG3.out (grown_trans (grown_drew (World.grownBy.refl _ none)) g)
            have q1 : VV 1 = .int .i64 v.t := hV 1 (by kernel_rfl)
            have e1 := hs 41 1 (by kernel_rfl) (by kernel_rfl)
            obtain ⟨a4, c4, A4, N4, q4, hN4, hp4⟩ := hV 4 (by kernel_rfl)
            have e4 := hs 44 4 (by kernel_rfl) (by kernel_rfl)
            obtain ⟨a7, c7, q7, hb7⟩ := hV 7 (by kernel_rfl)
            have e7 := hs 47 7 (by kernel_rfl) (by kernel_rfl)
            have q9 : VV 9 = .int .i64 v.en := hV 9 (by kernel_rfl)
            have e9 := hs 49 9 (by kernel_rfl) (by kernel_rfl)
            clear hV hs hz
            refine outO_call (f := 8) ?_ (callLk hp4 hN4 (HTb1.out _ gD) gD.size HNn.out hb7)
            simp [go_sem, q1, e1, q4, e4, q7, e7, q9, e9]
          · intro VV W0 AA g hV hs hz
            have r10 : ResD v W1.heap.size (VV 10) W0 := hV 10 (by kernel_rfl)
            have e10 := hs 50 10 (by kernel_rfl) (by kernel_rfl)
            clear hV hs hz
            exact outO_val (v := VV 10) (w' := W0) (by simp [go_sem, e10]) (World.grownBy.refl _ _) r10
          · intro VV W0 AA g hV hs hz
            have r11 : ResD v W1.heap.size (VV 11) W0 := hV 11 (by kernel_rfl)
            have e11 := hs 39 11 (by kernel_rfl) (by kernel_rfl)
            clear hV hs hz
            rcases r11 with ⟨hno, E, hE, q11⟩ | ⟨hok, n, Ls, cv, dv, TF, q11, hi⟩
            · exact outO_val (v := .agg #[.int .i64 0, .slice none 0 0, .slice none 0 0, .int .i64 0, .slice none 0 0]) (w' := W0) (by simp [go_sem, e11, q11]) (World.grownBy.refl _ _) (.inl ⟨hno, rfl⟩)
            · exact outO_val (v := .agg #[.int .i64 v.t, cv, dv, .int .i64 (Lk.pos (ends v.V (Lk.SS v.t v.V Ls)) n), .slice (some ⟨TF, 0, none⟩) v.K v.K]) (w' := W0) (by simp [go_sem, e11, q11]) (World.grownBy.refl _ _) (.inr ⟨hok, n, Ls, cv, dv, TF, rfl, hi⟩)
          · intro VV W0 AA g hV hs hz
            have r11 : ResD v W1.heap.size (VV 11) W0 := hV 11 (by kernel_rfl)
            have e11 := hs 39 11 (by kernel_rfl) (by kernel_rfl)
            clear hV hs hz
            rcases r11 with ⟨hno, E, hE, q11⟩ | ⟨hok, n, Ls, cv, dv, TF, q11, hi⟩
            · exact outO_val (v := .int .i64 E) (w' := W0) (by simp [go_sem, e11, q11]) (World.grownBy.refl _ _) (.inl ⟨hno, E, hE, rfl⟩)
            · exact outO_val (v := .int .i64 0) (w' := W0) (by simp [go_sem, e11, q11]) (World.grownBy.refl _ _) (.inr ⟨hok, rfl⟩)
          · intro VV W0 AA g hV hs hz
            have gD : W1.grownBy W0 none := grown_trans HG3.out (grown_trans (grown_drew (World.grownBy.refl _ none)) g)
            clear hV hs hz
            refine outO_val (v := .pointer (some ⟨W0.heap.size, 0, none⟩)) (w' := W0.alloc (Obj.cells #[.int .i64 0, .slice none 0 0, .slice none 0 0, .int .i64 0, .slice none 0 0] 32)) ?_ (World.grownBy_alloc _ _ _) ⟨W0.heap.size, rfl, row5_new _ _ _ _ _ _ _, gD.size⟩
            simp [go_sem]
        · intro VV W0 g hV
          have gD : W1.grownBy W0 none := grown_trans HG3.out (grown_trans (grown_drew (World.grownBy.refl _ none)) g)
          have h0 : VV 0 = .pointer (some ⟨B1, 0, none⟩) := hV 0 (by decide)
          have h1 : VV 1 = .int .i64 v.t := hV 1 (by decide)
          have h2 : VV 2 = .pointer (some ⟨B1, 1, none⟩) := hV 2 (by decide)
          have h3 : VV 3 = .slice v.a v.K v.c := hV 3 (by decide)
          have h5 : VV 5 = .pointer (some ⟨B1, 2, none⟩) := hV 5 (by decide)
          have h6 : VV 6 = .slice v.da v.dn v.dc := hV 6 (by decide)
          have h8 : VV 8 = .pointer (some ⟨B1, 3, none⟩) := hV 8 (by decide)
          have h9 : VV 9 = .int .i64 v.en := hV 9 (by decide)
          obtain ⟨a4, c4, A4, N4, h4, _, _⟩ := hV 4 (by decide)
          obtain ⟨a7, c7, h7, _⟩ := hV 7 (by decide)
          obtain ⟨y10, h10⟩ : ∃ y, VV 10 = y := ⟨_, rfl⟩
          have r11 : ResD v W1.heap.size (VV 11) W0 := hV 11 (by decide)
          have r12 : ImD v W1.heap.size (VV 12) W0 := hV 12 (by decide)
          have r13 : ErD v (VV 13) := hV 13 (by decide)
          obtain ⟨y13, h13⟩ : ∃ y, VV 13 = y := ⟨_, rfl⟩
          obtain ⟨IB, h14, hrow, hIB⟩ := hV 14 (by decide)
          have HR : Hid (W0.rowIs IB 32 5 (row5 (.int .i64 0) (.slice none 0 0) (.slice none 0 0) (.int .i64 0) (.slice none 0 0))) := hrow
          have HGd : Hid (W1.grownBy W0 none) := gD
          obtain ⟨z0, z1, z2, z3, z4, zz⟩ := rowIs_five hrow
          have f0 := zz 0
          have f1 := zz 1
          have f2 := zz 2
          have f3 := zz 3
          have f4 := zz 4
          clear zz hrow hV gD
          rcases r12 with ⟨hno, h12⟩ | ⟨hok, n, Ls, cv, dv, TF, h12, hi⟩
          · rcases r11 with ⟨hno1, E, hE, h11⟩ | ⟨hok, n2, Ls2, cv2, dv2, TF2, h11, _⟩
            · rw [h13] at r13
              rcases r13 with ⟨hno3, E3, hE3, q13⟩ | ⟨hok3, q13⟩
              · subst q13
                simp [frV, dstOf, Act.put, h0, h1, h2, h3, h4, h5, h6, h7, h8, h9, h10, h11, h12, h13, h14]
                clear h0 h1 h2 h3 h4 h5 h6 h7 h8 h9 h10 h11 h12 h13 h14 g
                go_wp2_with fail
                go_meet
                exact cut_no (f := fun _ => undef) hno hE3 HGd.out hIB _ _ _ _ _
              · exact absurd hok3 hno
            · exact absurd hok hno
          · rcases r11 with ⟨hno', E, hE, h11⟩ | ⟨hok1, n2, Ls2, cv2, dv2, TF2, h11, _⟩
            · exact absurd hok hno'
            · rw [h13] at r13
              rcases r13 with ⟨hno3, E3, hE3, q13⟩ | ⟨hok3, q13⟩
              · exact absurd hok hno3
              · subst q13
                obtain ⟨ca, cn, cc, rfl⟩ := hi.cs
                obtain ⟨da9, dn9, dc9, rfl⟩ := hi.ds
                simp [frV, dstOf, Act.put, h0, h1, h2, h3, h4, h5, h6, h7, h8, h9, h10, h11, h12, h13, h14]
                clear h0 h1 h2 h3 h4 h5 h6 h7 h8 h9 h10 h11 h12 h13 h14 g
                go_wp2_with fail
                go_meet
                exact cut_yes hok HGd.out hIB HR.out hi
        · intro VV W0 g hV hold
          have gD : W1.grownBy W0 none := grown_trans HG3.out (grown_trans (grown_drew (World.grownBy.refl _ none)) g)
          have h0 : VV 0 = .pointer (some ⟨B1, 0, none⟩) := hV 0 (by decide) (by decide)
          have h1 : VV 1 = .int .i64 v.t := hV 1 (by decide) (by decide)
          have h2 : VV 2 = .pointer (some ⟨B1, 1, none⟩) := hV 2 (by decide) (by decide)
          have h3 : VV 3 = .slice v.a v.K v.c := hV 3 (by decide) (by decide)
          have h5 : VV 5 = .pointer (some ⟨B1, 2, none⟩) := hV 5 (by decide) (by decide)
          have h6 : VV 6 = .slice v.da v.dn v.dc := hV 6 (by decide) (by decide)
          have h8 : VV 8 = .pointer (some ⟨B1, 3, none⟩) := hV 8 (by decide) (by decide)
          have h9 : VV 9 = .int .i64 v.en := hV 9 (by decide) (by decide)
          obtain ⟨a4, c4, A4, N4, h4, _, _⟩ := hV 4 (by decide) (by decide)
          obtain ⟨a7, c7, h7, _⟩ := hV 7 (by decide) (by decide)
          obtain ⟨y10, h10⟩ : ∃ y, VV 10 = y := ⟨_, rfl⟩
          have r11 : ResD v W1.heap.size (VV 11) W0 := hV 11 (by decide) (by decide)
          have r12 : ImD v W1.heap.size (VV 12) W0 := hV 12 (by decide) (by decide)
          obtain ⟨y13, h13⟩ : ∃ y, VV 13 = y := ⟨_, rfl⟩
          obtain ⟨IB, h14, hrow, hIB⟩ := hV 14 (by decide) (by decide)
          have HR : Hid (W0.rowIs IB 32 5 (row5 (.int .i64 0) (.slice none 0 0) (.slice none 0 0) (.int .i64 0) (.slice none 0 0))) := hrow
          have HGd : Hid (W1.grownBy W0 none) := gD
          obtain ⟨z0, z1, z2, z3, z4, zz⟩ := rowIs_five hrow
          have f0 := zz 0
          have f1 := zz 1
          have f2 := zz 2
          have f3 := zz 3
          have f4 := zz 4
          clear zz hrow hV gD hold
          rcases r12 with ⟨hno, h12⟩ | ⟨hok, n, Ls, cv, dv, TF, h12, hi⟩
          · rcases r11 with ⟨hno1, E, hE, h11⟩ | ⟨hok, n2, Ls2, cv2, dv2, TF2, h11, _⟩
            · skip
              simp [frV, dstOf, Act.put, h0, h1, h2, h3, h4, h5, h6, h7, h8, h9, h10, h11, h12, h13, h14]
              clear h0 h1 h2 h3 h4 h5 h6 h7 h8 h9 h10 h11 h12 h13 h14 g
              go_wp2_with fail
              go_meet
              exact cut_no (f := fun _ => undef) hno hE HGd.out hIB _ _ _ _ _
            · exact absurd hok hno
          · rcases r11 with ⟨hno', E, hE, h11⟩ | ⟨hok1, n2, Ls2, cv2, dv2, TF2, h11, _⟩
            · exact absurd hok hno'
            · skip
              obtain ⟨ca, cn, cc, rfl⟩ := hi.cs
              obtain ⟨da9, dn9, dc9, rfl⟩ := hi.ds
              simp [frV, dstOf, Act.put, h0, h1, h2, h3, h4, h5, h6, h7, h8, h9, h10, h11, h12, h13, h14]
              clear h0 h1 h2 h3 h4 h5 h6 h7 h8 h9 h10 h11 h12 h13 h14 g
              go_wp2_with fail
              go_meet
              exact cut_yes hok HGd.out hIB HR.out hi
      case rest =>
        obtain ⟨IB, rfl, gx, hcase⟩ := hcut
        obtain ⟨W7, hwc⟩ : ∃ x, x = wc := ⟨_, rfl⟩
        rw [← hwc] at gx hcase ⊢
        clear hwc
        have HG7 : Hid (w.grownBy W7 none) := grown_trans HG1.out gx
        have HX7 : Hid (W1.grownBy W7 none) := gx
        have p0 := gx.cell b0 (by simp)
        have p1 := gx.cell b1 (by simp)
        have p2 := gx.cell b2 (by simp)
        have p3 := gx.cell b3 (by simp)
        clear b0 b1 b2 b3 d2 gx HH2 HG3 t0 t1 t2 t3
        rcases hcase with ⟨hno, E, hE, rfl⟩ | ⟨hok, rfl, n, Ls, cv, dv, TF, hrow, hi⟩
        · have hE0 : (E != 0) = true := by rcases hE with rfl | rfl <;> rfl
          clear hE hno
          go_wp2_with (go_at_call 12; refine (HN.out _ _).mono ?_; rintro e6 w6 ⟨rfl, hw6⟩; rw [hw6]; clear hw6 w6)
          go_roundw
          case rel => exact ⟨k + 1, by go_num, by omega, HG7.out⟩
          case measure => simp [intOf]; omega
        obtain ⟨ca, cn, cc, rfl⟩ := hi.cs
        obtain ⟨dx, dy, dz, rfl⟩ := hi.ds
        obtain ⟨F, hF⟩ : ∃ F : Nat → Int, F = Lk.pos (ends v.V (Lk.SS v.t v.V Ls)) := ⟨_, rfl⟩
        obtain ⟨Q, hQ⟩ : ∃ Q : Nat → Nat → Int, Q = Lk.plc v.t v.V Ls := ⟨_, rfl⟩
        obtain ⟨S, hS⟩ : ∃ S : Nat → Nat → Int, S = Lk.SS v.t v.V Ls := ⟨_, rfl⟩
        obtain ⟨G, hG⟩ : ∃ G : Nat → Nat → InV, G = Lk.fin v.t v.V (Lk.SS v.t v.V Ls) := ⟨_, rfl⟩
        rw [← hF] at hrow
        have hK0 := hi.K0
        have hK33 := hi.K33
        have hnK := hi.nK
        have HNx : Hid (∀ k2 j, k2 < v.K → j < (v.V k2).n → ∀ W, W7.grownBy W none → Calls Tryz.prog 17 #[.agg #[.int .i64 v.t, .slice ca cn cc, .slice dx dy dz, .int .i64 (F n), .slice (some ⟨TF, 0, none⟩) v.K v.K], .int .i64 (Q k2 j)] W fun e w' => e = .returned (.tuple #[.agg #[.int .i64 (G k2 j).op, .int .i64 (G k2 j).a, .int .i64 (G k2 j).b, .int .i64 (G k2 j).c, .int .i64 (G k2 j).k, .int .i64 (G k2 j).sub, .int .i64 (G k2 j).scale, .int .i64 (G k2 j).imm, .int .i64 (G k2 j).label], .int .i64 (S k2 j), .bool true]) ∧ W.grownBy w' none) := fun k2 j hk2 hj W g => by rw [hQ, hS, hG]; exact next_all (hi.grow g) hk2 hj
        have HLd : Hid (∀ k2 j, k2 < v.K → j < (v.V k2).n → ∀ W, W7.grownBy W none → ∀ pa pc, NumIn W.heap.size W pa ((v.V k2).n + 1) pc (Q k2) → Calls Tryz.prog 18 #[.agg #[.int .i64 v.t, .slice ca cn cc, .slice dx dy dz, .int .i64 (F n), .slice (some ⟨TF, 0, none⟩) v.K v.K], .agg #[.slice (v.A k2).ia (v.V k2).n (v.A k2).ic, .slice (v.A k2).ma (v.V k2).m (v.A k2).mc, .int .i64 (v.A k2).out], .int .i64 j, .agg #[.int .i64 (G k2 j).op, .int .i64 (G k2 j).a, .int .i64 (G k2 j).b, .int .i64 (G k2 j).c, .int .i64 (G k2 j).k, .int .i64 (G k2 j).sub, .int .i64 (G k2 j).scale, .int .i64 (G k2 j).imm, .int .i64 (G k2 j).label], .slice pa ((v.V k2).n + 1) pc] W fun e w' => e = .returned (.bool true) ∧ W.grownBy w' none) := fun k2 j hk2 hj W g pa pc hp => by
          rw [hQ] at hp
          rw [hG]
          obtain ⟨b9, o9, _, hb9, hpa⟩ := (HPs.out W (grown_trans HX7.out g)).at hk2
          have hN9 : w.heap.size ≤ W.heap.size := by have h1 := HG7.out.size; have h2 := g.size; omega
          exact leads_all (hi.grow g) hk2 hj (hpa.ins.up hN9) (hpa.mks.up hN9) hp
        have HFz : Hid (F 0 = 0) := by rw [hF]; rfl
        have HQz : Hid (∀ k2, Q k2 0 = F k2) := fun k2 => by rw [hQ, hF]; exact Lk.plc_zero _ _ _ _
        have HQs : Hid (∀ k2 j, Q k2 (j + 1) = Q k2 j + S k2 j) := fun k2 j => by rw [hQ, hS]; exact Lk.plc_succ _ _ _ _ _
        have HQe : Hid (∀ k2, Q k2 (v.V k2).n = F (k2 + 1)) := fun k2 => by rw [hQ, hF]; exact Lk.plc_end _ _ _ _
        have HQb : Hid (∀ k2 j, k2 < v.K → j ≤ (v.V k2).n → 0 ≤ Q k2 j ∧ Q k2 j ≤ 1048576) := fun k2 j hk2 hj => by rw [hQ]; exact hi.lkd.plc_in hk2 hj
        have HS1 : Hid (∀ k2 j, k2 < v.K → j < (v.V k2).n → 1 ≤ S k2 j ∧ S k2 j ≤ 33) := fun k2 j hk2 hj => by rw [hS]; exact Lk.size_le (hi.lkd.ok k2 hk2) (Ls k2) hj
        have HnL : Hid (∀ k2, k2 < v.K → (v.V k2).n ≤ 1048576) := fun k2 hk2 => hi.lkd.n_le hk2
        have hcn : F v.K = (cn : Int) := by
          have h1 := hi.lkd.lenA (Nat.le_refl _)
          rw [hF, ← h1]
          rcases hi.own.2 with ⟨e, h0⟩ | ⟨g', c', cur, e, _⟩
          · injection e with _ e2 _
            rw [e2, h0]
          · injection e with _ e2 _
            rw [e2]
        have HFc : Hid (∀ q, q < v.K → ∀ W, W7.grownBy W none → W.cell? ⟨TF, q, none⟩ = some (.int .i64 (F q))) := fun q hq W g => by rw [hF]; exact (hi.grow g).fn.cell hq
        have HRi : Hid (∀ W, W7.grownBy W none → W.rowIs IB 32 5 (row5 (.int .i64 v.t) (.slice ca cn cc) (.slice dx dy dz) (.int .i64 (F n)) (.slice (some ⟨TF, 0, none⟩) v.K v.K))) := fun W g => rowIs_grown hrow g
        obtain ⟨ab, ao, hva, hab, _⟩ := (HPs.out W7 HX7.out).at hK0
        have HPc : Hid (∀ k2, k2 < v.K → ∀ W, W7.grownBy W none → PcAt w.heap.size W ab (ao + k2 * 3) (v.V k2) (v.A k2)) := fun k2 hk2 W g => by
          obtain ⟨b9, o9, e9, _, hpa⟩ := (HPs.out W (grown_trans HX7.out g)).at hk2
          rw [hva] at e9
          injection e9 with e9
          injection e9 with e1 e2
          subst e1 e2
          exact hpa
        have HMy : Hid (Calls Tryz.prog 11 #[.int .i64 v.t, .slice (some ⟨ab, ao, none⟩) v.K v.c, .int .i64 n] W7 fun e w' => e = .returned (.bool true) ∧ W7.grownBy w' none) := by
          have hps := HPs.out W7 HX7.out
          rw [hva] at hps
          have hok := hi.lkd.ok
          have hrg := hi.lkd.rng
          rcases hi.ht with h | h
          · rw [h] at hok ⊢; exact may6_r hps hK0 hK33 hnK hok hrg
          · rw [h] at hok ⊢; exact may6_c hps hK0 hK33 hnK hok hrg
        rw [hva] at p1
        rw [hi.en] at p3
        have HI7 : Hid (ImgY v n Ls (.slice ca cn cc) (.slice dx dy dz) TF W1.heap.size W7) := hi
        have HcN : Hid (F v.K = (cn : Int)) := hcn
        have HPB : Hid (∀ W, W7.grownBy W none → W.cell? ⟨B1, 1, none⟩ = some (.slice (some ⟨ab, ao, none⟩) v.K v.c) ∧ W.cell? ⟨B1, 3, none⟩ = some (.int .i64 n)) := fun W g => ⟨g.cell p1 (by simp), g.cell p3 (by simp)⟩
        obtain ⟨i0, i1, i2, i3, i4, _⟩ := rowIs_five hrow
        clear hi hF hQ hS hG hrow hva hcn hok
        go_wp2_with (first
          | (go_at_call 12; refine (HN.out _ _).mono ?_; rintro e6 w6 ⟨rfl, hw6⟩; rw [hw6]; clear hw6 w6)
          | (go_at_call 11; (refine HMy.out.mono ?_; rintro e6 w6 ⟨rfl, hg6⟩; have HG6 : Hid (W7.grownBy w6 none) := hg6; have j0 := hg6.cell i0 (by simp); have j1 := hg6.cell i1 (by simp); have j3 := hg6.cell i3 (by simp); have j4 := hg6.cell i4 (by simp); have y0 := hg6.cell p0 (by simp); have y1 := hg6.cell p1 (by simp); have y3 := hg6.cell p3 (by simp); clear hg6 i0 i1 i2 i3 i4 p0 p1 p2 p3)))
        clear j0 j1 j3 j4 y0 y1 y3 HMy
        have hnK' : (n : Int) < v.K := by omega
        go_loopw [7, 8] (fun at9 ix wr => ∃ k2 : Nat, ix = .int .i64 k2 ∧ at9 = .int .i64 (F k2) ∧ k2 ≤ v.K ∧ W7.grownBy wr none) (fun _ ix _ => v.K - (intOf ix).toNat)
        case atStart => exact ⟨0, rfl, by rw [HFz.out], Nat.zero_le _, HG6.out⟩
        case round =>
          obtain ⟨k2, rfl, rfl, hk2, hg2⟩ := hrel
          obtain ⟨W8, hw8⟩ : ∃ W8, W8 = wr := ⟨_, rfl⟩
          rw [← hw8] at hg2 ⊢
          clear hw8
          have HG8 : Hid (W7.grownBy W8 none) := hg2
          obtain ⟨i0, i1, i2, i3, i4, _⟩ := rowIs_five (HRi.out W8 hg2)
          obtain ⟨q1, q3⟩ := HPB.out W8 hg2
          by_cases hk2K : k2 < v.K
          case neg =>
            obtain rfl : k2 = v.K := by omega
            have fc := HFc.out n hnK W8 hg2
            have d1 : (F v.K != (cn : Int)) = false := by rw [HcN.out]; simp
            clear hg2
            go_wp2_with fail
            go_quiet (fail)
            go_wp2_with fail
            go_roundw
            case rel => exact ⟨k + 1, by go_num, by omega, grown_trans HG7.out (grown_drewN HG8.out _)⟩
            case measure => simp [intOf]; omega
          have hk2K' : (k2 : Int) < v.K := by omega
          have fc := HFc.out k2 hk2K W8 hg2
          have hpc := HPc.out k2 hk2K W8 hg2
          have c0 := hpc.c0
          have HPcs : Hid (∀ W, W8.grownBy W none → PcAt w.heap.size W ab (ao + k2 * 3) (v.V k2) (v.A k2)) := fun W g => HPc.out k2 hk2K W (grown_trans HG8.out g)
          have HN2 : Hid (∀ j, j < (v.V k2).n → ∀ W, W8.grownBy W none → Calls Tryz.prog 17 #[.agg #[.int .i64 v.t, .slice ca cn cc, .slice dx dy dz, .int .i64 (F n), .slice (some ⟨TF, 0, none⟩) v.K v.K], .int .i64 (Q k2 j)] W fun e w' => e = .returned (.tuple #[.agg #[.int .i64 (G k2 j).op, .int .i64 (G k2 j).a, .int .i64 (G k2 j).b, .int .i64 (G k2 j).c, .int .i64 (G k2 j).k, .int .i64 (G k2 j).sub, .int .i64 (G k2 j).scale, .int .i64 (G k2 j).imm, .int .i64 (G k2 j).label], .int .i64 (S k2 j), .bool true]) ∧ W.grownBy w' none) := fun j hj W g => HNx.out k2 j hk2K hj W (grown_trans HG8.out g)
          have HL2 : Hid (∀ j, j < (v.V k2).n → ∀ W, W8.grownBy W none → ∀ pa pc, NumIn W.heap.size W pa ((v.V k2).n + 1) pc (Q k2) → Calls Tryz.prog 18 #[.agg #[.int .i64 v.t, .slice ca cn cc, .slice dx dy dz, .int .i64 (F n), .slice (some ⟨TF, 0, none⟩) v.K v.K], .agg #[.slice (v.A k2).ia (v.V k2).n (v.A k2).ic, .slice (v.A k2).ma (v.V k2).m (v.A k2).mc, .int .i64 (v.A k2).out], .int .i64 j, .agg #[.int .i64 (G k2 j).op, .int .i64 (G k2 j).a, .int .i64 (G k2 j).b, .int .i64 (G k2 j).c, .int .i64 (G k2 j).k, .int .i64 (G k2 j).sub, .int .i64 (G k2 j).scale, .int .i64 (G k2 j).imm, .int .i64 (G k2 j).label], .slice pa ((v.V k2).n + 1) pc] W fun e w' => e = .returned (.bool true) ∧ W.grownBy w' none) := fun j hj W g pa pc hp => HLd.out k2 j hk2K hj W (grown_trans HG8.out g) pa pc hp
          have Hq0 : Hid (Q k2 0 = F k2) := HQz.out k2
          have HqS : Hid (∀ j, Q k2 (j + 1) = Q k2 j + S k2 j) := HQs.out k2
          have Hqe : Hid (Q k2 (v.V k2).n = F (k2 + 1)) := HQe.out k2
          have Hqb : Hid (∀ j, j ≤ (v.V k2).n → 0 ≤ Q k2 j ∧ Q k2 j ≤ 1048576) := fun j hj => HQb.out k2 j hk2K hj
          have Hs1 : Hid (∀ j, j < (v.V k2).n → 1 ≤ S k2 j ∧ S k2 j ≤ 33) := fun j hj => HS1.out k2 j hk2K hj
          have hPn := HnL.out k2 hk2K
          have hil := hpc.ins.le
          have him := hpc.ins.max
          have hml := hpc.mks.le
          have hmm := hpc.mks.max
          unfold maxLen at him hmm
          clear hpc hg2
          generalize v.V k2 = P at *
          generalize v.A k2 = A2 at *
          generalize Q k2 = q at *
          generalize S k2 = s at *
          generalize G k2 = gg at *
          go_wp2_with fail
          clear i0 i1 i2 i3 i4 q1 q3 fc c0
          go_loopw [7, 9, 10, 11] (fun at9 pl il ix wr => ∃ j : Nat, ix = .int .i64 j ∧ at9 = .int .i64 (q j) ∧ j ≤ P.n ∧ Rd W8 wr q gg j pl il) (fun _ _ _ ix _ => P.n - (intOf ix).toNat)
          case atStart => exact ⟨0, rfl, by rw [Hq0.out], Nat.zero_le _, ⟨World.ownsRow_nil _ _ _ _, World.ownsRow_nil _ _ _ _, World.grownBy.refl _ _⟩⟩
          case round =>
            obtain ⟨j, rfl, rfl, hj, hR⟩ := hrel
            have hgr := hR.gr
            obtain ⟨pa, pcp, hu9, _, _, _⟩ := hR.z.slice
            obtain ⟨ia2, icp, hu10, _, _⟩ := hR.i.slice
            rw [List.length_map, List.length_range] at hu9 hu10
            subst hu9 hu10
            have HR : Hid (Rd W8 wr q gg j (.slice pa j pcp) (.slice ia2 j icp)) := hR
            obtain ⟨LZ, hLZ⟩ : ∃ LZ, LZ = (List.range j).map q := ⟨_, rfl⟩
            obtain ⟨LI, hLI⟩ : ∃ LI, LI = (List.range j).map gg := ⟨_, rfl⟩
            have HLs : Hid (LZ = (List.range j).map q ∧ LI = (List.range j).map gg) := ⟨hLZ, hLI⟩
            have HZr : Hid (OwnZ wr W8.heap.size (.slice pa j pcp) LZ) := by rw [hLZ]; exact hR.z
            have HIr : Hid (OwnI wr W8.heap.size (.slice ia2 j icp) LI) := by rw [hLI]; exact hR.i
            obtain ⟨i0, i1, i2, i3, i4, _⟩ := rowIs_five (HRi.out wr (grown_trans HG8.out hgr))
            obtain ⟨q1, q3⟩ := HPB.out wr (grown_trans HG8.out hgr)
            have c0 := (HPcs.out wr hgr).c0
            have hszr := hgr.size
            have hlen : LZ.length ≤ 2000000 := by rw [hLZ]; simp; omega
            have hlen2 : LI.length ≤ 2000000 := by rw [hLI]; simp; omega
            clear hLZ hLI
            by_cases hjn : j < P.n
            · have hjn' : (j : Int) < P.n := by omega
              have hb0 := Hqb.out j (by omega)
              have hb1 := Hqb.out (j + 1) (by omega)
              have hs0 := Hs1.out j hjn
              have hst := HqS.out j
              obtain ⟨x, hx⟩ : ∃ x, x = gg j := ⟨_, rfl⟩
              obtain ⟨sj, hsj⟩ : ∃ sj, sj = s j := ⟨_, rfl⟩
              obtain ⟨qj, hqj⟩ : ∃ qj, qj = q j := ⟨_, rfl⟩
              have HNj0 := HN2.out j hjn wr hgr
              rw [← hx, ← hsj, ← hqj] at HNj0
              have HNj : Hid (Calls Tryz.prog 17 #[.agg #[.int .i64 v.t, .slice ca cn cc, .slice dx dy dz, .int .i64 (F n), .slice (some ⟨TF, 0, none⟩) v.K v.K], .int .i64 qj] wr fun e w' => e = .returned (.tuple #[.agg #[.int .i64 x.op, .int .i64 x.a, .int .i64 x.b, .int .i64 x.c, .int .i64 x.k, .int .i64 x.sub, .int .i64 x.scale, .int .i64 x.imm, .int .i64 x.label], .int .i64 sj, .bool true]) ∧ wr.grownBy w' none) := HNj0
              rw [← hqj] at hb0 hst ⊢
              rw [← hsj] at hs0 hst
              have HX : Hid (x = gg j ∧ sj = s j ∧ qj = q j) := ⟨hx, hsj, hqj⟩
              have HSt : Hid (q (j + 1) = qj + sj) := hst
              have hb2 : 0 ≤ qj + sj ∧ qj + sj ≤ 1048576 := by rw [hst] at hb1; exact hb1
              clear hx hsj hqj HNj0 hst hb1 hR hgr
              go_wp2_with (first
                | (go_at_call 17; refine HNj.out.mono ?_; rintro e3 w3 ⟨rfl, hg3⟩; have HG3y : Hid (wr.grownBy w3 none) := hg3; have hsz3 := hg3.size; clear hg3)
                | (at_builtin; refine wp_appZ1 rfl _ _ rfl W8.heap.size (.slice pa j pcp) LZ qj rfl (HZr.out.grow (ga HG3y.out _)) rfl (by simp) hlen (by simp; omega) ?_; intro v4 w4 ho4 hg4; have HO4 : Hid (OwnZ w4 W8.heap.size v4 (LZ ++ [qj])) := ho4; have HG4y : Hid ((w3.alloc (Obj.cells #[.int .i64 x.op, .int .i64 x.a, .int .i64 x.b, .int .i64 x.c, .int .i64 x.k, .int .i64 x.sub, .int .i64 x.scale, .int .i64 x.imm, .int .i64 x.label] 50)).grownBy w4 (Value.slice pa j pcp).ownBlock) := hg4; have hsz4 := hg4.size; have HZ3 := HZr.out.grow HG3y.out; have hne4 : some w3.heap.size ≠ (Value.slice pa j pcp).ownBlock := (fun e => absurd (HZ3.lt _ e.symm) (Nat.lt_irrefl _)); obtain ⟨k0, k1, k2', k3, k4, k5, k6, k7, k8, _⟩ := (InstAt.new w3 x).kept hg4 hne4; have hz4 := HZr.out.grow (w' := w3.alloc (Obj.cells #[.int .i64 x.op, .int .i64 x.a, .int .i64 x.b, .int .i64 x.c, .int .i64 x.k, .int .i64 x.sub, .int .i64 x.scale, .int .i64 x.imm, .int .i64 x.label] 50)) (ga HG3y.out _); have hi4 := HIr.out.grow (w' := w3.alloc (Obj.cells #[.int .i64 x.op, .int .i64 x.a, .int .i64 x.b, .int .i64 x.c, .int .i64 x.k, .int .i64 x.sub, .int .i64 x.scale, .int .i64 x.imm, .int .i64 x.label] 50)) (ga HG3y.out _); have HI4 : Hid (OwnI w4 W8.heap.size (.slice ia2 j icp) LI) := hi4.kept hg4 (apartZI hz4 hi4).1; clear hz4 hi4 HZ3 hne4; clear ho4 hg4)
                | (at_builtin; refine wp_appI2 rfl _ _ rfl W8.heap.size (.slice ia2 j icp) LI x rfl HI4.out rfl (by simp) hlen2 (by simp at hsz4; omega) ?_; intro v5 w5 ho5 hg5; have HO5 : Hid (OwnI w5 W8.heap.size v5 (LI ++ [x])) := ho5; have HG5y : Hid (w4.grownBy w5 (Value.slice ia2 j icp).ownBlock) := hg5; clear ho5 hg5))
              go_roundw
              case rel => exact ⟨j + 1, by go_num, by rw [HSt.out], by omega, Rd.step HR.out (ga HG3y.out _) (by rw [← HX.out.2.2, ← HLs.out.1]; exact HO4.out) HG4y.out (by rw [← HX.out.1, ← HLs.out.2]; exact HO5.out) HG5y.out⟩
              case measure => simp [intOf]; omega
            · obtain rfl : j = P.n := by omega
              clear hR hgr
              obtain ⟨qe, hqe⟩ : ∃ qe, qe = q P.n := ⟨_, rfl⟩
              rw [← hqe]
              have HQe2 : Hid (qe = q P.n) := hqe
              clear hqe
              go_wp2_with (at_builtin; refine wp_appZ1 rfl _ _ rfl W8.heap.size (.slice pa P.n pcp) LZ qe rfl HZr.out rfl (by simp) hlen (by omega) ?_; intro v6 w6 ho6 hg6; have HO6 : Hid (OwnZ w6 W8.heap.size v6 (LZ ++ [qe])) := ho6; have HG6y : Hid (wr.grownBy w6 (Value.slice pa P.n pcp).ownBlock) := hg6; clear ho6 hg6)
              obtain ⟨z6, o6, g6⟩ := Rd.last HR.out (by rw [← HQe2.out, ← HLs.out.1]; exact HO6.out) HG6y.out
              obtain ⟨pa6, pc6, hv6, hNu⟩ := z6.numIn (M := q) (n := P.n + 1) (by simp) (fun i hi => by simp [List.getD_eq_getElem?_getD, hi])
              subst hv6
              have HNu : Hid (∀ W, w6.grownBy W none → NumIn W.heap.size W pa6 (P.n + 1) pc6 q) := fun W g => (hNu.grow g).up g.size
              have HIo : Hid (∀ W, w6.grownBy W none → OwnI W W8.heap.size (.slice ia2 P.n icp) ((List.range P.n).map gg)) := fun W g => o6.grow g
              have HG68 : Hid (W8.grownBy w6 none) := g6
              clear z6 o6 g6 hNu HO6 HG6y HR HZr HIr i0 i1 i2 i3 i4 q1 q3 c0 hlen hlen2
              go_loopw [15] (fun ix wr => ∃ j4 : Nat, ix = .int .i64 j4 ∧ j4 ≤ P.n ∧ w6.grownBy wr none) (fun ix _ => P.n - (intOf ix).toNat)
              case atStart => exact ⟨0, rfl, Nat.zero_le _, World.grownBy.refl _ _⟩
              case round =>
                obtain ⟨j4, rfl, hj4n, hg4r⟩ := hrel
                have HG4r : Hid (w6.grownBy wr none) := hg4r
                by_cases hj4 : j4 < P.n
                case neg =>
                  obtain rfl : j4 = P.n := by omega
                  clear hg4r
                  go_wp2_with fail
                  go_roundw
                  case rel => exact ⟨k2 + 1, by go_num, by rw [HQe2.out, Hqe.out], by omega, grown_trans HG8.out (grown_trans HG68.out HG4r.out)⟩
                  case measure => simp [intOf]; omega
                have hj4' : (j4 : Int) < P.n := by omega
                have hg8r : W8.grownBy wr none := grown_trans HG68.out hg4r
                obtain ⟨i0, i1, i2, i3, i4, _⟩ := rowIs_five (HRi.out wr (grown_trans HG8.out hg8r))
                obtain ⟨pq1, pq3⟩ := HPB.out wr (grown_trans HG8.out hg8r)
                have hpcr := HPcs.out wr hg8r
                have c0 := hpcr.c0
                have c1 := hpcr.c1
                have c2 := hpcr.c2
                have hio := HIo.out wr hg4r
                obtain ⟨iao, icc, hie, _, hTI⟩ := hio.slice
                rw [List.length_map, List.length_range] at hie hTI
                obtain ⟨TI, hTIe, _⟩ := hTI (by omega)
                injection hie with e1 e2 e3
                rw [hTIe] at e1
                subst e1
                have hia := hio.inAt (by simp) (i := j4) (by simpa using hj4)
                rw [List.getElem_map, List.getElem_range, Nat.zero_add] at hia
                have HLj0 := HL2.out j4 hj4
                obtain ⟨x, hx⟩ : ∃ x, x = gg j4 := ⟨_, rfl⟩
                rw [← hx] at hia HLj0
                have HLj : Hid (∀ W, wr.grownBy W none → Calls Tryz.prog 18 #[.agg #[.int .i64 v.t, .slice ca cn cc, .slice dx dy dz, .int .i64 (F n), .slice (some ⟨TF, 0, none⟩) v.K v.K], .agg #[.slice A2.ia P.n A2.ic, .slice A2.ma P.m A2.mc, .int .i64 A2.out], .int .i64 j4, .agg #[.int .i64 x.op, .int .i64 x.a, .int .i64 x.b, .int .i64 x.c, .int .i64 x.k, .int .i64 x.sub, .int .i64 x.scale, .int .i64 x.imm, .int .i64 x.label], .slice pa6 (P.n + 1) pc6] W fun e w' => e = .returned (.bool true) ∧ W.grownBy w' none) := fun W g => HLj0 W (grown_trans HG68.out (grown_trans HG4r.out g)) _ _ (HNu.out W (grown_trans HG4r.out g))
                obtain ⟨xa, xb, xc, xd, xe, xf, xg, xh, xi⟩ := hia
                clear HLj0 hx hpcr hio hg8r hg4r hTI hTIe
                try clear e2
                try clear e3
                go_wp2_with fail
                refine region_src 13 (psiV [.agg #[.int .i64 v.t, .slice ca cn cc, .slice dx dy dz, .int .i64 (F n), .slice (some ⟨TF, 0, none⟩) v.K v.K], .pointer (some ⟨B1, 1, none⟩), .slice (some ⟨ab, ao, none⟩) v.K v.c, .int .i64 (k2 : Int), .pointer (some ⟨ab, ao + k2 * 3, none⟩), .agg #[.slice A2.ia P.n A2.ic, .slice A2.ma P.m A2.mc, .int .i64 A2.out], .int .i64 (j4 : Int), .slice (some ⟨TI, 0, none⟩) P.n icp, .int .i64 (j4 : Int), .pointer (some ⟨TI, j4 * 9, none⟩), .agg #[.int .i64 x.op, .int .i64 x.a, .int .i64 x.b, .int .i64 x.c, .int .i64 x.k, .int .i64 x.sub, .int .i64 x.scale, .int .i64 x.imm, .int .i64 x.label], .slice pa6 (P.n + 1) pc6, .bool true]) (by kernel_rfl) (by kernel_rfl) (by kernel_rfl) (by kernel_rfl) (fun i x w0 w1 hi h g => h) ?_ ?_
                · simp only [List.take_succ_cons, List.take_zero]
                  refine ⟨?_, ?_, ?_, ?_, ?_, ?_, ?_, ?_, ?_, ?_, ?_, ?_, ?_, trivial⟩
                  · intro VV W0 AA g hV hs hz
                    have gD : wr.grownBy W0 none := grown_trans (grown_drew (World.grownBy.refl _ none)) g
                    have e05 := hz 5 (.pointer (some ⟨IB, 0, none⟩)) (by kernel_rfl) rfl
                    have x0 := gD.cell i0 (by simp)
                    have x1 := gD.cell i1 (by simp)
                    have x2 := gD.cell i2 (by simp)
                    have x3 := gD.cell i3 (by simp)
                    have x4 := gD.cell i4 (by simp)
                    clear hV hs hz
                    refine outO_val (v := .agg #[.int .i64 v.t, .slice ca cn cc, .slice dx dy dz, .int .i64 (F n), .slice (some ⟨TF, 0, none⟩) v.K v.K]) (w' := W0) ?_ (World.grownBy.refl _ _) rfl
                    simp [go_sem, e05, x0, x1, x2, x3, x4]
                  · intro VV W0 AA g hV hs hz
                    have gD : wr.grownBy W0 none := grown_trans (grown_drew (World.grownBy.refl _ none)) g
                    have e04 := hz 4 (.pointer (some ⟨B1, 0, none⟩)) (by kernel_rfl) rfl
                    clear hV hs hz
                    refine outO_val (v := .pointer (some ⟨B1, 1, none⟩)) (w' := W0) ?_ (World.grownBy.refl _ _) rfl
                    simp [go_sem, e04]
                  · intro VV W0 AA g hV hs hz
                    have gD : wr.grownBy W0 none := grown_trans (grown_drew (World.grownBy.refl _ none)) g
                    have q1 : VV 1 = .pointer (some ⟨B1, 1, none⟩) := hV 1 (by kernel_rfl)
                    have e1 := hs 140 1 (by kernel_rfl) (by kernel_rfl)
                    have x0 := gD.cell pq1 (by simp)
                    clear hV hs hz
                    refine outO_val (v := .slice (some ⟨ab, ao, none⟩) v.K v.c) (w' := W0) ?_ (World.grownBy.refl _ _) rfl
                    simp [go_sem, q1, e1, x0]
                  · intro VV W0 AA g hV hs hz
                    have gD : wr.grownBy W0 none := grown_trans (grown_drew (World.grownBy.refl _ none)) g
                    have e08 := hz 8 (.int .i64 (k2 : Int)) (by kernel_rfl) rfl
                    clear hV hs hz
                    refine outO_val (v := .int .i64 (k2 : Int)) (w' := W0) ?_ (World.grownBy.refl _ _) rfl
                    simp [go_sem, e08]
                  · intro VV W0 AA g hV hs hz
                    have gD : wr.grownBy W0 none := grown_trans (grown_drew (World.grownBy.refl _ none)) g
                    have q2 : VV 2 = .slice (some ⟨ab, ao, none⟩) v.K v.c := hV 2 (by kernel_rfl)
                    have e2 := hs 141 2 (by kernel_rfl) (by kernel_rfl)
                    have q3 : VV 3 = .int .i64 (k2 : Int) := hV 3 (by kernel_rfl)
                    have e3 := hs 142 3 (by kernel_rfl) (by kernel_rfl)
                    clear hV hs hz
                    refine outO_val (v := .pointer (some ⟨ab, ao + k2 * 3, none⟩)) (w' := W0) ?_ (World.grownBy.refl _ _) rfl
                    simp [go_sem, q2, e2, q3, e3, hk2K']
                  · intro VV W0 AA g hV hs hz
                    have gD : wr.grownBy W0 none := grown_trans (grown_drew (World.grownBy.refl _ none)) g
                    have q4 : VV 4 = .pointer (some ⟨ab, ao + k2 * 3, none⟩) := hV 4 (by kernel_rfl)
                    have e4 := hs 143 4 (by kernel_rfl) (by kernel_rfl)
                    have x0 := gD.cell c0 (by simp)
                    have x1 := gD.cell c1 (by simp)
                    have x2 := gD.cell c2 (by simp)
                    clear hV hs hz
                    refine outO_val (v := .agg #[.slice A2.ia P.n A2.ic, .slice A2.ma P.m A2.mc, .int .i64 A2.out]) (w' := W0) ?_ (World.grownBy.refl _ _) rfl
                    simp [go_sem, q4, e4, x0, x1, x2]
                  · intro VV W0 AA g hV hs hz
                    have gD : wr.grownBy W0 none := grown_trans (grown_drew (World.grownBy.refl _ none)) g
                    have e015 := hz 15 (.int .i64 (j4 : Int)) (by kernel_rfl) rfl
                    clear hV hs hz
                    refine outO_val (v := .int .i64 (j4 : Int)) (w' := W0) ?_ (World.grownBy.refl _ _) rfl
                    simp [go_sem, e015]
                  · intro VV W0 AA g hV hs hz
                    have gD : wr.grownBy W0 none := grown_trans (grown_drew (World.grownBy.refl _ none)) g
                    have e010 := hz 10 (.slice (some ⟨TI, 0, none⟩) P.n icp) (by kernel_rfl) rfl
                    clear hV hs hz
                    refine outO_val (v := .slice (some ⟨TI, 0, none⟩) P.n icp) (w' := W0) ?_ (World.grownBy.refl _ _) rfl
                    simp [go_sem, e010]
                  · intro VV W0 AA g hV hs hz
                    have gD : wr.grownBy W0 none := grown_trans (grown_drew (World.grownBy.refl _ none)) g
                    have e015 := hz 15 (.int .i64 (j4 : Int)) (by kernel_rfl) rfl
                    clear hV hs hz
                    refine outO_val (v := .int .i64 (j4 : Int)) (w' := W0) ?_ (World.grownBy.refl _ _) rfl
                    simp [go_sem, e015]
                  · intro VV W0 AA g hV hs hz
                    have gD : wr.grownBy W0 none := grown_trans (grown_drew (World.grownBy.refl _ none)) g
                    have q7 : VV 7 = .slice (some ⟨TI, 0, none⟩) P.n icp := hV 7 (by kernel_rfl)
                    have e7 := hs 146 7 (by kernel_rfl) (by kernel_rfl)
                    have q8 : VV 8 = .int .i64 (j4 : Int) := hV 8 (by kernel_rfl)
                    have e8 := hs 147 8 (by kernel_rfl) (by kernel_rfl)
                    clear hV hs hz
                    refine outO_val (v := .pointer (some ⟨TI, j4 * 9, none⟩)) (w' := W0) ?_ (World.grownBy.refl _ _) rfl
                    simp [go_sem, q7, e7, q8, e8, hj4']
                  · intro VV W0 AA g hV hs hz
                    have gD : wr.grownBy W0 none := grown_trans (grown_drew (World.grownBy.refl _ none)) g
                    have q9 : VV 9 = .pointer (some ⟨TI, j4 * 9, none⟩) := hV 9 (by kernel_rfl)
                    have e9 := hs 148 9 (by kernel_rfl) (by kernel_rfl)
                    have x0 := gD.cell xa (by simp)
                    have x1 := gD.cell xb (by simp)
                    have x2 := gD.cell xc (by simp)
                    have x3 := gD.cell xd (by simp)
                    have x4 := gD.cell xe (by simp)
                    have x5 := gD.cell xf (by simp)
                    have x6 := gD.cell xg (by simp)
                    have x7 := gD.cell xh (by simp)
                    have x8 := gD.cell xi (by simp)
                    clear hV hs hz
                    refine outO_val (v := .agg #[.int .i64 x.op, .int .i64 x.a, .int .i64 x.b, .int .i64 x.c, .int .i64 x.k, .int .i64 x.sub, .int .i64 x.scale, .int .i64 x.imm, .int .i64 x.label]) (w' := W0) ?_ (World.grownBy.refl _ _) rfl
                    simp [go_sem, q9, e9, x0, x1, x2, x3, x4, x5, x6, x7, x8]
                  · intro VV W0 AA g hV hs hz
                    have gD : wr.grownBy W0 none := grown_trans (grown_drew (World.grownBy.refl _ none)) g
                    have e09 := hz 9 (.slice pa6 (P.n + 1) pc6) (by kernel_rfl) rfl
                    clear hV hs hz
                    refine outO_val (v := .slice pa6 (P.n + 1) pc6) (w' := W0) ?_ (World.grownBy.refl _ _) rfl
                    simp [go_sem, e09]
                  · intro VV W0 AA g hV hs hz
                    have gD : wr.grownBy W0 none := grown_trans (grown_drew (World.grownBy.refl _ none)) g
                    have q0 : VV 0 = .agg #[.int .i64 v.t, .slice ca cn cc, .slice dx dy dz, .int .i64 (F n), .slice (some ⟨TF, 0, none⟩) v.K v.K] := hV 0 (by kernel_rfl)
                    have e0 := hs 139 0 (by kernel_rfl) (by kernel_rfl)
                    have q5 : VV 5 = .agg #[.slice A2.ia P.n A2.ic, .slice A2.ma P.m A2.mc, .int .i64 A2.out] := hV 5 (by kernel_rfl)
                    have e5 := hs 144 5 (by kernel_rfl) (by kernel_rfl)
                    have q6 : VV 6 = .int .i64 (j4 : Int) := hV 6 (by kernel_rfl)
                    have e6 := hs 145 6 (by kernel_rfl) (by kernel_rfl)
                    have q10 : VV 10 = .agg #[.int .i64 x.op, .int .i64 x.a, .int .i64 x.b, .int .i64 x.c, .int .i64 x.k, .int .i64 x.sub, .int .i64 x.scale, .int .i64 x.imm, .int .i64 x.label] := hV 10 (by kernel_rfl)
                    have e10 := hs 149 10 (by kernel_rfl) (by kernel_rfl)
                    have q11 : VV 11 = .slice pa6 (P.n + 1) pc6 := hV 11 (by kernel_rfl)
                    have e11 := hs 150 11 (by kernel_rfl) (by kernel_rfl)
                    clear hV hs hz
                    refine outO_call (f := 18) ?_ ((HLj.out W0 gD).mono fun e w2 ⟨he, hg⟩ => ⟨_, he, hg, rfl⟩)
                    simp [go_sem, q0, e0, q5, e5, q6, e6, q10, e10, q11, e11]
                · intro VV W0 g hV
                  have gD : wr.grownBy W0 none := grown_trans (grown_drew (World.grownBy.refl _ none)) g
                  have h0 : VV 0 = .agg #[.int .i64 v.t, .slice ca cn cc, .slice dx dy dz, .int .i64 (F n), .slice (some ⟨TF, 0, none⟩) v.K v.K] := hV 0 (by decide)
                  have h1 : VV 1 = .pointer (some ⟨B1, 1, none⟩) := hV 1 (by decide)
                  have h2 : VV 2 = .slice (some ⟨ab, ao, none⟩) v.K v.c := hV 2 (by decide)
                  have h3 : VV 3 = .int .i64 (k2 : Int) := hV 3 (by decide)
                  have h4 : VV 4 = .pointer (some ⟨ab, ao + k2 * 3, none⟩) := hV 4 (by decide)
                  have h5 : VV 5 = .agg #[.slice A2.ia P.n A2.ic, .slice A2.ma P.m A2.mc, .int .i64 A2.out] := hV 5 (by decide)
                  have h6 : VV 6 = .int .i64 (j4 : Int) := hV 6 (by decide)
                  have h7 : VV 7 = .slice (some ⟨TI, 0, none⟩) P.n icp := hV 7 (by decide)
                  have h8 : VV 8 = .int .i64 (j4 : Int) := hV 8 (by decide)
                  have h9 : VV 9 = .pointer (some ⟨TI, j4 * 9, none⟩) := hV 9 (by decide)
                  have h10 : VV 10 = .agg #[.int .i64 x.op, .int .i64 x.a, .int .i64 x.b, .int .i64 x.c, .int .i64 x.k, .int .i64 x.sub, .int .i64 x.scale, .int .i64 x.imm, .int .i64 x.label] := hV 10 (by decide)
                  have h11 : VV 11 = .slice pa6 (P.n + 1) pc6 := hV 11 (by decide)
                  have h12 : VV 12 = .bool true := hV 12 (by decide)
                  simp [frV, dstOf, Act.put, h0, h1, h2, h3, h4, h5, h6, h7, h8, h9, h10, h11, h12]
                  clear h0 h1 h2 h3 h4 h5 h6 h7 h8 h9 h10 h11 h12 hV g
                  have GR : Hid (wr.grownBy W0 none) := gD
                  clear gD
                  go_wp2_with fail
                  go_roundw
                  case rel => exact ⟨j4 + 1, by go_num, by omega, grown_trans HG4r.out GR.out⟩
                  case measure => simp [intOf]; omega
end Go.Proofs.YtkiockffejlnhaaGreatDoor
