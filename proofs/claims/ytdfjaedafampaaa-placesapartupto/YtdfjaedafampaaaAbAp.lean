/- PlacesApart: the walk. -/
import Derived.Test.YtdfjaedafampaaaG12
import Derived.Test.YtdfjaedafampaaaRuGd
namespace Go.Proofs.Ytdfjaedafampaaa
open Go.RowKit
set_option linter.unusedVariables false

/-- a table that lies somewhere -/
def tysV (n : Nat) (T : Nat → Ty.TyV) : Value → World → Prop := fun v w => ∃ a c N, v = .slice a n c ∧ N ≤ w.heap.size ∧ TysIn N w a n c T
theorem stab_tys (n : Nat) (T : Nat → Ty.TyV) : StabV (tysV n T) := fun _ _ _ ⟨a, c, N, e, hN, h⟩ g => ⟨a, c, N, e, Nat.le_trans hN g.size, h.grow g⟩
set_option maxRecDepth 100000 in
set_option maxHeartbeats 16000000 in
theorem placesApart_walk (a : Option Addr) (len cap : Nat) (V : Nat → TbV) (w : World) (hl : RowB 3 72 PaAt w a len cap V) :
    Calls Try.prog 4 #[.slice a len cap] w fun e w' => e = .returned (.bool true) ∧ Below w.heap.size w w' := by
  have HW : Hid (∀ W, Calls Try.prog 14 #[] W fun r w' => r = .returned (.bool true) ∧ W.grownBy w' none) := wakes11_any
  have HN : Hid (∀ x W, Calls Try.prog 10 #[.int .i64 x] W fun e w' => e = .returned (.int .i64 x) ∧ w' = W) := num11_any
  have hfit : len * 72 ≤ 140737488351232 := hl.fits
  have hfit' : (len : Int) ≤ 140737488351232 := by omega
  rcases hl.bs with h0 | ⟨b, off, rfl, hlt, hV⟩
  · subst h0
    go_enter Try.func4, Try.ntmps4
    go_wp2_with fail
    refine wp_loop_once ?_
    go_wp2_with (go_at_call 14; refine (HW.out _).mono ?_; rintro r w1 ⟨rfl, g1⟩)
    go_ret
    exact ⟨rfl, grown_below g1⟩
  · have HV : Hid (∀ i, i < len → PaAt w b (off + i * 3) (V i)) := hV
    have hle := hl.le
    clear hV hl
    go_enter Try.func4, Try.ntmps4
    go_wp2_with fail
    go_loopw [3] (fun ix wr => ∃ k : Nat, ix = .int .i64 k ∧ k ≤ len ∧ w.grownBy wr none) (fun ix _ => len - (intOf ix).toNat)
    case atStart => exact ⟨0, rfl, Nat.zero_le _, World.grownBy.refl _ _⟩
    case round =>
      obtain ⟨k, rfl, hk, hg⟩ := hrel
      obtain ⟨wo, hwo⟩ : ∃ wo, wo = wr := ⟨_, rfl⟩
      rw [← hwo] at hg ⊢
      clear hwo
      have HG : Hid (w.grownBy wo none) := hg
      by_cases hkl : k < len ∧ k < 15
      · obtain ⟨hkl, hk15⟩ := hkl
        have hkl' : (k : Int) < len := by omega
        have hk15' : (k : Int) < 15 := by omega
        have hPa := HV.out k hkl
        have htf := hPa.tb.tf
        have htz := hPa.tb.tz
        have hiz := hPa.iz
        have hfz := hPa.fz
        have hsz := hg.size
        generalize V k = v at hPa htf htz hiz hfz
        obtain ⟨ta, tn, tc, T, ia, im, ic, I, fa, fm, fc, F⟩ := v
        simp only at hPa htf htz hiz hfz
        obtain ⟨t0, t1, t2, tT, tI, tF⟩ := hPa.tb.grow hg
        simp only at t0 t1 t2 tT tI tF
        obtain ⟨W1, hW1⟩ : ∃ W1, W1 = wo.alloc (.cells #[.slice ta tn tc, .slice ia im ic, .slice fa fm fc] 26) := ⟨_, rfl⟩
        obtain ⟨B1, hB1⟩ : ∃ B1, B1 = wo.heap.size := ⟨_, rfl⟩
        have g1 : wo.grownBy W1 none := by rw [hW1]; exact World.grownBy_alloc _ _ _
        have k1 : Bk W1 B1 26 [.slice ta tn tc, .slice ia im ic, .slice fa fm fc] := by rw [hW1, hB1]; exact Bk.new _ _ _
        have HT : Hid (∀ W, W1.grownBy W none → TysIn w.heap.size W ta tn tc T) := fun W g => tT.grow (grown_trans g1 g)
        have HI : Hid (∀ W, W1.grownBy W none → NumIn w.heap.size W ia im ic I) := fun W g => tI.grow (grown_trans g1 g)
        have HF : Hid (∀ W, W1.grownBy W none → NumIn w.heap.size W fa fm fc F) := fun W g => tF.grow (grown_trans g1 g)
        have HTf : Hid (∀ i, i < tn → (T i).nf * 8 ≤ reachBytes) := htf
        have HH := heavy7_any (HT.out W1 (World.grownBy.refl _ _)) htz htf
        have HK1 : Hid (Bk W1 B1 26 [.slice ta tn tc, .slice ia im ic, .slice fa fm fc]) := k1
        have HG1 : Hid (w.grownBy W1 none) := grown_trans HG.out g1
        have HW1 : Hid (wo.alloc (.cells #[.slice ta tn tc, .slice ia im ic, .slice fa fm fc] 26) = W1 ∧ wo.heap.size = B1) := ⟨hW1.symm, hB1.symm⟩
        have HH2 : Hid (Calls Try.prog 5 #[.slice ta tn tc] W1 fun e w' => HvR tn e ∧ w' = W1) := HH
        have HZi : Hid (ia = none → im = 0 ∧ ic = 0) := hiz
        have HZf : Hid (fa = none → fm = 0 ∧ fc = 0) := hfz
        have b0 := k1.cell (i := 0) rfl
        have b1 := k1.cell (i := 1) rfl
        have b2 := k1.cell (i := 2) rfl
        have hile := tI.le
        have hfle := tF.le
        have himx := tI.max
        have hfmx := tF.max
        unfold maxLen at himx hfmx
        clear tT tI tF htf hPa HH hW1 g1 k1 hg hiz hfz hB1
        by_cases h100 : im ≤ 100 ∧ fm ≤ 100
        · obtain ⟨hi100, hf100⟩ := h100
          have hi' : (im : Int) ≤ 100 := by omega
          have hf' : (fm : Int) ≤ 100 := by omega
          go_wp2_with (go_at_call 5; rw [HW1.out.1, HW1.out.2]; refine HH2.out.mono ?_; rintro e w3 ⟨⟨bv, rfl, hbv⟩, hw3⟩; rw [hw3]; clear hw3 w3; cases bv)
          rotate_left
          · go_ret
            exact ⟨rfl, grown_below HG1.out⟩
          · have h2000 : tn ≤ 2000 := hbv (by simp)
            clear hbv HH2
            have HCt : Hid (∀ W, W1.grownBy W none → Calls Try.prog 6 #[.slice ta tn tc] W fun e w' => ∃ a' c', e = .returned (.slice a' tn c') ∧ TysIn w'.heap.size w' a' tn c' T ∧ W.grownBy w' none) := fun W g => copyTypes_any (HT.out W g) (by have := HG1.out.size; have := g.size; omega) h2000 HTf.out
            have HCi : Hid (∀ W, W1.grownBy W none → Calls Try.prog 8 #[.slice ia im ic] W fun e w' => ∃ a' c', e = .returned (.slice a' im c') ∧ NumIn w'.heap.size w' a' im c' I ∧ W.grownBy w' none) := fun W g => (copyNums_any (HI.out W g) HZi.out (by show im * 8 ≤ 140737488351232; omega)).mono fun e w' ⟨a', c', he, hn, _, _, hg⟩ => ⟨a', c', he, hn, hg⟩
            have HCf : Hid (∀ W, W1.grownBy W none → Calls Try.prog 8 #[.slice fa fm fc] W fun e w' => ∃ a' c', e = .returned (.slice a' fm c') ∧ NumIn w'.heap.size w' a' fm c' F ∧ W.grownBy w' none) := fun W g => (copyNums_any (HF.out W g) HZf.out (by show fm * 8 ≤ 140737488351232; omega)).mono fun e w' ⟨a', c', he, hn, _, _, hg⟩ => ⟨a', c', he, hn, hg⟩
            obtain ⟨E, hE⟩ : ∃ E, E = Ab.err T tn I im F fm := ⟨_, rfl⟩
            obtain ⟨A, hA⟩ : ∃ A, A = Ab.lA T tn I im F fm := ⟨_, rfl⟩
            obtain ⟨R, hR⟩ : ∃ R, R = Ab.lR T tn I im F fm := ⟨_, rfl⟩
            obtain ⟨s, hs⟩ : ∃ s, s = Ab.sN T tn I im F fm := ⟨_, rfl⟩
            have HPl : Hid (∀ W n2a n2c N2 n3a n3c N3 n6a n6c N6, W1.grownBy W none → N2 ≤ W.heap.size → TysIn N2 W n2a tn n2c T → NumIn N3 W n3a im n3c I → NumIn N6 W n6a fm n6c F → Calls Try.prog 7 #[.slice n2a tn n2c, .slice n3a im n3c, .slice n6a fm n6c] W fun e w' => ∃ x va vr, e = .returned (.tuple #[x, .int .i64 E]) ∧ AsgO w' W1.heap.size x A R s va vr ∧ W.grownBy w' none) := fun W n2a n2c N2 n3a n3c N3 n6a n6c N6 g hN2 h2 h3 h6 => by
              rw [hE, hA, hR, hs]
              exact (places_any h2 hN2 (h3.hi (Nat.le_add_right N3 N6)) (h6.hi (Nat.le_add_left N6 N3))).mono fun e w' ⟨x, va, vr, he, ho, hg⟩ => ⟨x, va, vr, he, ho.low g.size, hg⟩
            have HRf : Hid (∀ W, W1.grownBy W none → Calls Try.prog 9 #[.slice ta tn tc, .slice ia im ic, .slice fa fm fc] W fun e w' => ∃ x va vr, e = .returned (.tuple #[x, .int .i64 E]) ∧ AsgO w' W.heap.size x A R s va vr ∧ W.grownBy w' none) := fun W g => by
              rw [hE, hA, hR, hs]
              exact rPlaces11_any (HT.out W g) (by have := HG1.out.size; have := g.size; omega) (HI.out W g) (HF.out W g) hi' hf'
            have HLn : Hid (A.length ≤ 1000 ∧ R.length ≤ 1000) := by rw [hA, hR]; exact Ab.l_len T tn I im F fm
            have HEq : Hid (E = Ab.err T tn I im F fm ∧ A = Ab.lA T tn I im F fm ∧ R = Ab.lR T tn I im F fm ∧ s = Ab.sN T tn I im F fm) := ⟨hE, hA, hR, hs⟩
            clear hE hA hR hs
            go_cut [5, 6] (fun p e wx => CutA W1.heap.size E A R s W1 p e wx)
            case first =>
              as_aux_lemma =>
                refine region_late 14 12 _ _ _ (psiL [eqV (.pointer (some ⟨B1, 0, none⟩)), eqV (.slice ta tn tc), tysV tn T, eqV (.pointer (some ⟨B1, 1, none⟩)), eqV (.slice ia im ic), numV im I, eqV (.pointer (some ⟨B1, 2, none⟩)), eqV (.slice fa fm fc), numV fm F, asgT W1.heap.size E A R s, asgT W1.heap.size E A R s, asgX W1.heap.size A R s, eqV (.int .i64 E), newA W1.heap.size]) (by kernel_rfl) (by kernel_rfl) rfl rfl rfl (by kernel_rfl) (by kernel_rfl) (psiL_hst (by repeat (first | exact stab_nil | refine stab_cons ?_ ?_ | exact stab_eq _ | exact stab_tys _ _ | exact stab_num _ _ | exact stab_asgT _ _ _ _ _ | exact stab_asgX _ _ _ _ | exact stab_eq _ | exact stab_newA _))) ?_ ?_ ?_
                · simp only [List.take_succ_cons, List.take_zero]
                  refine ⟨?_, ?_, ?_, ?_, ?_, ?_, ?_, ?_, ?_, ?_, ?_, ?_, ?_, ?_, trivial⟩
                  · intro VV W0 AA g hV hs hz
                    have e04 := hz 4 (.pointer (some ⟨B1, 0, none⟩)) (by kernel_rfl) rfl
                    clear hV hs hz
                    refine outO_val (v := .pointer (some ⟨B1, 0, none⟩)) (w' := W0) ?_ (World.grownBy.refl _ _) rfl
                    simp [go_sem, e04]
                  · intro VV W0 AA g hV hs hz
                    have gD : W1.grownBy W0 none := grown_trans (grown_drew (World.grownBy.refl _ none)) g
                    have q0 : VV 0 = .pointer (some ⟨B1, 0, none⟩) := hV 0 (by kernel_rfl)
                    have e0 := hs 45 0 (by kernel_rfl) (by kernel_rfl)
                    have x0 := gD.cell b0 (by simp)
                    clear hV hs hz
                    refine outO_val (v := .slice ta tn tc) (w' := W0) ?_ (World.grownBy.refl _ _) rfl
                    simp [go_sem, q0, e0, x0]
                  · intro VV W0 AA g hV hs hz
                    have gD : W1.grownBy W0 none := grown_trans (grown_drew (World.grownBy.refl _ none)) g
                    have q1 : VV 1 = .slice ta tn tc := hV 1 (by kernel_rfl)
                    have e1 := hs 46 1 (by kernel_rfl) (by kernel_rfl)
                    clear hV hs hz
                    refine outO_call (f := 6) ?_ ((HCt.out W0 gD).mono fun e w2 ⟨a', c', he, hn, hg⟩ => ⟨_, he, hg, a', c', _, rfl, Nat.le_refl _, hn⟩)
                    simp [go_sem, q1, e1]
                  · intro VV W0 AA g hV hs hz
                    have e04 := hz 4 (.pointer (some ⟨B1, 0, none⟩)) (by kernel_rfl) rfl
                    clear hV hs hz
                    refine outO_val (v := .pointer (some ⟨B1, 1, none⟩)) (w' := W0) ?_ (World.grownBy.refl _ _) rfl
                    simp [go_sem, e04]
                  · intro VV W0 AA g hV hs hz
                    have gD : W1.grownBy W0 none := grown_trans (grown_drew (World.grownBy.refl _ none)) g
                    have q3 : VV 3 = .pointer (some ⟨B1, 1, none⟩) := hV 3 (by kernel_rfl)
                    have e3 := hs 48 3 (by kernel_rfl) (by kernel_rfl)
                    have x0 := gD.cell b1 (by simp)
                    clear hV hs hz
                    refine outO_val (v := .slice ia im ic) (w' := W0) ?_ (World.grownBy.refl _ _) rfl
                    simp [go_sem, q3, e3, x0]
                  · intro VV W0 AA g hV hs hz
                    have gD : W1.grownBy W0 none := grown_trans (grown_drew (World.grownBy.refl _ none)) g
                    have q4 : VV 4 = .slice ia im ic := hV 4 (by kernel_rfl)
                    have e4 := hs 49 4 (by kernel_rfl) (by kernel_rfl)
                    clear hV hs hz
                    refine outO_call (f := 8) ?_ ((HCi.out W0 gD).mono fun e w2 ⟨a', c', he, hn, hg⟩ => ⟨_, he, hg, a', c', _, rfl, hn⟩)
                    simp [go_sem, q4, e4]
                  · intro VV W0 AA g hV hs hz
                    have e04 := hz 4 (.pointer (some ⟨B1, 0, none⟩)) (by kernel_rfl) rfl
                    clear hV hs hz
                    refine outO_val (v := .pointer (some ⟨B1, 2, none⟩)) (w' := W0) ?_ (World.grownBy.refl _ _) rfl
                    simp [go_sem, e04]
                  · intro VV W0 AA g hV hs hz
                    have gD : W1.grownBy W0 none := grown_trans (grown_drew (World.grownBy.refl _ none)) g
                    have q6 : VV 6 = .pointer (some ⟨B1, 2, none⟩) := hV 6 (by kernel_rfl)
                    have e6 := hs 51 6 (by kernel_rfl) (by kernel_rfl)
                    have x0 := gD.cell b2 (by simp)
                    clear hV hs hz
                    refine outO_val (v := .slice fa fm fc) (w' := W0) ?_ (World.grownBy.refl _ _) rfl
                    simp [go_sem, q6, e6, x0]
                  · intro VV W0 AA g hV hs hz
                    have gD : W1.grownBy W0 none := grown_trans (grown_drew (World.grownBy.refl _ none)) g
                    have q7 : VV 7 = .slice fa fm fc := hV 7 (by kernel_rfl)
                    have e7 := hs 52 7 (by kernel_rfl) (by kernel_rfl)
                    clear hV hs hz
                    refine outO_call (f := 8) ?_ ((HCf.out W0 gD).mono fun e w2 ⟨a', c', he, hn, hg⟩ => ⟨_, he, hg, a', c', _, rfl, hn⟩)
                    simp [go_sem, q7, e7]
                  · intro VV W0 AA g hV hs hz
                    have gD : W1.grownBy W0 none := grown_trans (grown_drew (World.grownBy.refl _ none)) g
                    have p2 : (tysV tn T) (VV 2) W0 := hV 2 (by kernel_rfl)
                    have e2 := hs 47 2 (by kernel_rfl) (by kernel_rfl)
                    have p5 : (numV im I) (VV 5) W0 := hV 5 (by kernel_rfl)
                    have e5 := hs 50 5 (by kernel_rfl) (by kernel_rfl)
                    have p8 : (numV fm F) (VV 8) W0 := hV 8 (by kernel_rfl)
                    have e8 := hs 53 8 (by kernel_rfl) (by kernel_rfl)
                    clear hV hs hz
                    obtain ⟨n2a, n2c, N2, q2, hn2, ht2⟩ := p2
                    obtain ⟨n5a, n5c, N5, q5, hn5⟩ := p5
                    obtain ⟨n8a, n8c, N8, q8, hn8⟩ := p8
                    refine outO_call (f := 7) ?_ ((HPl.out W0 n2a n2c N2 n5a n5c N5 n8a n8c N8 gD hn2 ht2 hn5 hn8).mono fun e w2 ⟨x, va, vr, he, ho, hg⟩ => ⟨_, he, hg, x, va, vr, rfl, ho⟩)
                    simp [go_sem, e2, e5, e8, q2, q5, q8]
                  · intro VV W0 AA g hV hs hz
                    have gD : W1.grownBy W0 none := grown_trans (grown_drew (World.grownBy.refl _ none)) g
                    have p9 : (asgT W1.heap.size E A R s) (VV 9) W0 := hV 9 (by kernel_rfl)
                    have e9 := hs 54 9 (by kernel_rfl) (by kernel_rfl)
                    clear hV hs hz
                    exact outO_val (v := VV 9) (w' := W0) (by simp [go_sem, e9]) (World.grownBy.refl _ _) p9
                  · intro VV W0 AA g hV hs hz
                    have gD : W1.grownBy W0 none := grown_trans (grown_drew (World.grownBy.refl _ none)) g
                    have p10 : (asgT W1.heap.size E A R s) (VV 10) W0 := hV 10 (by kernel_rfl)
                    have e10 := hs 44 10 (by kernel_rfl) (by kernel_rfl)
                    clear hV hs hz
                    obtain ⟨x8, a8, r8, q8, ho8⟩ := p10
                    exact outO_val (v := x8) (w' := W0) (by simp [go_sem, e10, q8]) (World.grownBy.refl _ _) ⟨a8, r8, ho8⟩
                  · intro VV W0 AA g hV hs hz
                    have gD : W1.grownBy W0 none := grown_trans (grown_drew (World.grownBy.refl _ none)) g
                    have p10 : (asgT W1.heap.size E A R s) (VV 10) W0 := hV 10 (by kernel_rfl)
                    have e10 := hs 44 10 (by kernel_rfl) (by kernel_rfl)
                    clear hV hs hz
                    obtain ⟨x8, a8, r8, q8, _⟩ := p10
                    exact outO_val (v := .int .i64 E) (w' := W0) (by simp [go_sem, e10, q8]) (World.grownBy.refl _ _) rfl
                  · intro VV W0 AA g hV hs hz
                    have gD : W1.grownBy W0 none := grown_trans (grown_drew (World.grownBy.refl _ none)) g
                    clear hV hs hz
                    refine outO_val (v := .pointer (some ⟨W0.heap.size, 0, none⟩)) (w' := W0.alloc (Obj.cells #[.slice none 0 0, .slice none 0 0, .int .i64 0] 31)) ?_ (World.grownBy_alloc _ _ _) ⟨W0.heap.size, rfl, Bk.new _ _ _, gD.size⟩
                    simp [go_sem]
                · intro VV W0 g hV
                  have gD : W1.grownBy W0 none := grown_trans (grown_drew (World.grownBy.refl _ none)) g
                  have h0 : VV 0 = .pointer (some ⟨B1, 0, none⟩) := hV 0 (by decide)
                  have h1 : VV 1 = .slice ta tn tc := hV 1 (by decide)
                  have p2 : (tysV tn T) (VV 2) W0 := hV 2 (by decide)
                  obtain ⟨n2a, n2c, _, h2, _⟩ := p2
                  have h3 : VV 3 = .pointer (some ⟨B1, 1, none⟩) := hV 3 (by decide)
                  have h4 : VV 4 = .slice ia im ic := hV 4 (by decide)
                  have p5 : (numV im I) (VV 5) W0 := hV 5 (by decide)
                  obtain ⟨n5a, n5c, _, h5, _⟩ := p5
                  have h6 : VV 6 = .pointer (some ⟨B1, 2, none⟩) := hV 6 (by decide)
                  have h7 : VV 7 = .slice fa fm fc := hV 7 (by decide)
                  have p8 : (numV fm F) (VV 8) W0 := hV 8 (by decide)
                  obtain ⟨n8a, n8c, _, h8, _⟩ := p8
                  have p9 : (asgT W1.heap.size E A R s) (VV 9) W0 := hV 9 (by decide)
                  obtain ⟨y9, h9⟩ : ∃ y, VV 9 = y := ⟨_, rfl⟩
                  clear p9
                  have p10 : (asgT W1.heap.size E A R s) (VV 10) W0 := hV 10 (by decide)
                  obtain ⟨x8, a8, r8, h10, _⟩ := p10
                  have p11 : (asgX W1.heap.size A R s) (VV 11) W0 := hV 11 (by decide)
                  obtain ⟨va, vr, ho9⟩ := p11
                  have h11 := ho9.e
                  rw [h11] at ho9
                  have p12 : (eqV (.int .i64 E)) (VV 12) W0 := hV 12 (by decide)
                  have h12 : VV 12 = .int .i64 E := p12
                  have p13 : (newA W1.heap.size) (VV 13) W0 := hV 13 (by decide)
                  obtain ⟨B6, h13, k6, hB6⟩ := p13
                  simp [frV, dstOf, Act.put, h0, h1, h2, h3, h4, h5, h6, h7, h8, h9, h10, h11, h12, h13]
                  clear h0 h1 h2 h3 h4 h5 h6 h7 h8 h9 h10 h11 h12 h13 hV g
                  have GD : Hid (W1.grownBy W0 none) := gD
                  clear gD
                  have HO9 : Hid (AsgO W0 W1.heap.size (.agg #[va, vr, .int .i64 s]) A R s va vr) := ho9
                  have HK6 : Hid (Bk W0 B6 31 [.slice none 0 0, .slice none 0 0, .int .i64 0]) := k6
                  have z0 := k6.cell (i := 0) rfl
                  have z1 := k6.cell (i := 1) rfl
                  have z2 := k6.cell (i := 2) rfl
                  have f0 := k6.frozen 0
                  have f1 := k6.frozen 1
                  have f2 := k6.frozen 2
                  obtain ⟨aa, ac, hva, _⟩ := ho9.a.slice
                  obtain ⟨ra, rc, hvr, _⟩ := ho9.r.slice
                  generalize (A).length = an at hva
                  generalize (R).length = rn at hvr
                  subst hva hvr
                  clear ho9 k6
                  go_wp2_with fail
                  go_meet
                  exact cutA (Nat.le_refl _) HK6.out HO9.out GD.out hB6
                · intro VV W0 g hV hold
                  have gD : W1.grownBy W0 none := grown_trans (grown_drew (World.grownBy.refl _ none)) g
                  have h0 : VV 0 = .pointer (some ⟨B1, 0, none⟩) := hV 0 (by decide) (by decide)
                  have h1 : VV 1 = .slice ta tn tc := hV 1 (by decide) (by decide)
                  have p2 : (tysV tn T) (VV 2) W0 := hV 2 (by decide) (by decide)
                  obtain ⟨n2a, n2c, _, h2, _⟩ := p2
                  have h3 : VV 3 = .pointer (some ⟨B1, 1, none⟩) := hV 3 (by decide) (by decide)
                  have h4 : VV 4 = .slice ia im ic := hV 4 (by decide) (by decide)
                  have p5 : (numV im I) (VV 5) W0 := hV 5 (by decide) (by decide)
                  obtain ⟨n5a, n5c, _, h5, _⟩ := p5
                  have h6 : VV 6 = .pointer (some ⟨B1, 2, none⟩) := hV 6 (by decide) (by decide)
                  have h7 : VV 7 = .slice fa fm fc := hV 7 (by decide) (by decide)
                  have p8 : (numV fm F) (VV 8) W0 := hV 8 (by decide) (by decide)
                  obtain ⟨n8a, n8c, _, h8, _⟩ := p8
                  have p9 : (asgT W1.heap.size E A R s) (VV 9) W0 := hV 9 (by decide) (by decide)
                  obtain ⟨y9, h9⟩ : ∃ y, VV 9 = y := ⟨_, rfl⟩
                  clear p9
                  have p10 : (asgT W1.heap.size E A R s) (VV 10) W0 := hV 10 (by decide) (by decide)
                  obtain ⟨x8, a8, r8, h10, _⟩ := p10
                  have p11 : (asgX W1.heap.size A R s) (VV 11) W0 := hV 11 (by decide) (by decide)
                  obtain ⟨va, vr, ho9⟩ := p11
                  have h11 := ho9.e
                  rw [h11] at ho9
                  obtain ⟨y12, h12⟩ : ∃ y, VV 12 = y := ⟨_, rfl⟩
                  have p13 : (newA W1.heap.size) (VV 13) W0 := hV 13 (by decide) (by decide)
                  obtain ⟨B6, h13, k6, hB6⟩ := p13
                  simp [frV, dstOf, Act.put, h0, h1, h2, h3, h4, h5, h6, h7, h8, h9, h10, h11, h12, h13]
                  clear h0 h1 h2 h3 h4 h5 h6 h7 h8 h9 h10 h11 h12 h13 hV g hold
                  have GD : Hid (W1.grownBy W0 none) := gD
                  clear gD
                  have HO9 : Hid (AsgO W0 W1.heap.size (.agg #[va, vr, .int .i64 s]) A R s va vr) := ho9
                  have HK6 : Hid (Bk W0 B6 31 [.slice none 0 0, .slice none 0 0, .int .i64 0]) := k6
                  have z0 := k6.cell (i := 0) rfl
                  have z1 := k6.cell (i := 1) rfl
                  have z2 := k6.cell (i := 2) rfl
                  have f0 := k6.frozen 0
                  have f1 := k6.frozen 1
                  have f2 := k6.frozen 2
                  obtain ⟨aa, ac, hva, _⟩ := ho9.a.slice
                  obtain ⟨ra, rc, hvr, _⟩ := ho9.r.slice
                  generalize (A).length = an at hva
                  generalize (R).length = rn at hvr
                  subst hva hvr
                  clear ho9 k6
                  go_wp2_with fail
                  go_meet
                  exact cutA (Nat.le_refl _) HK6.out HO9.out GD.out hB6
            case rest =>
              obtain ⟨B6, va, vr, rfl, rfl, k6, ho6, g6, hB6⟩ := hcut
              obtain ⟨W6, hwc⟩ : ∃ x, x = wc := ⟨_, rfl⟩
              rw [← hwc] at k6 ho6 g6 ⊢
              clear hwc
              have HG6 : Hid (W1.grownBy W6 none) := g6
              have HK6 : Hid (Bk W6 B6 31 [va, vr, .int .i64 s]) := k6
              have hk1 := HK1.out.grow g6
              clear b0 b1 b2
              have b0 := hk1.cell (i := 0) rfl
              have b1 := hk1.cell (i := 1) rfl
              have b2 := hk1.cell (i := 2) rfl
              obtain ⟨aa, ac, hva, hpa⟩ := ho6.a.pcIn
              obtain ⟨ra, rc, hvr, hpr⟩ := ho6.r.pcIn
              have HPa : Hid (PcIn W6 aa A.length ac (fun i => A.getD i Ab.pc0)) := hpa
              have HPr : Hid (PcIn W6 ra R.length rc (fun i => R.getD i Ab.pc0)) := hpr
              have HNa : Hid (aa = none ∧ ac = 0 ∨ ∃ T, aa = some ⟨T, 0, none⟩) := by
                obtain ⟨x1, x2, x3, _, _, x4, _⟩ := ho6.a.slice
                rw [hva] at x3
                injection x3 with x3 _ x5
                subst x3 x5
                exact x4
              subst hva hvr
              obtain ⟨hla, hlr⟩ := HLn.out
              have hla' : (A.length : Int) ≤ 1000 := by omega
              have hlr' : (R.length : Int) ≤ 1000 := by omega
              have HRg : Hid (Calls Try.prog 9 #[.slice ta tn tc, .slice ia im ic, .slice fa fm fc] W6 fun e w' => ∃ aa' an' ac' ra' rn' rc', e = .returned (.tuple #[.agg #[.slice aa' an' ac', .slice ra' rn' rc', .int .i64 s], .int .i64 E]) ∧ W6.grownBy w' none) := (HRf.out W6 HG6.out).mono fun e w' ⟨x, va, vr, he, ho, hg⟩ => by
                obtain ⟨aa', ac', hva, hpa'⟩ := ho.a.pcIn
                obtain ⟨ra', rc', hvr, hpr'⟩ := ho.r.pcIn
                have hx := ho.e
                rw [hva, hvr] at hx
                rw [hx] at he
                exact ⟨aa', _, ac', ra', _, rc', he, hg⟩
              clear hpa hpr ho6 k6 g6 hk1 HCf HRf HLn
              by_cases hE0 : E = 0
              · subst hE0
                go_wp2_with (first
                  | (go_at_call 9; refine HRg.out.mono ?_; clear HRg; rintro e w7 ⟨aa', an', ac', ra', rn', rc', rfl, hg7⟩; have HG7 : Hid (W6.grownBy w7 none) := hg7; clear hg7 b0 b1 b2)
                  | (go_at_call 10; refine (HN.out _ _).mono ?_; rintro e w8 ⟨rfl, hw8⟩; rw [hw8]; clear hw8 w8))
                have hg8 := World.grownBy_alloc w7 (Obj.cells #[.slice aa' an' ac', .slice ra' rn' rc', .int .i64 s] 31) none
                obtain ⟨W8, hW8⟩ : ∃ W8, W8 = w7.alloc (Obj.cells #[.slice aa' an' ac', .slice ra' rn' rc', .int .i64 s] 31) := ⟨_, rfl⟩
                rw [← hW8] at hg8 ⊢
                obtain ⟨B7, hB7⟩ : ∃ B7, w7.heap.size = B7 := ⟨_, rfl⟩
                rw [hB7]
                have HG8 : Hid (W1.grownBy W8 none) := grown_trans HG6.out (grown_trans HG7.out hg8)
                have HG68 : Hid (W6.grownBy W8 none) := grown_trans HG7.out hg8
                clear hg8 hW8 hB7
                obtain ⟨hc, ho1, ho2⟩ := Ab.err_zero HEq.out.1.symm
                have eA : A = (Ab.go (Ab.kw T I) 0 im).l := HEq.out.2.1.trans (if_pos HEq.out.1.symm)
                have eR : R = (Ab.go (Ab.kw T F) (Ab.go (Ab.kw T I) 0 im).s fm).l := HEq.out.2.2.1.trans (if_pos HEq.out.1.symm)
                have eS : s = ((Ab.go (Ab.kw T F) (Ab.go (Ab.kw T I) 0 im).s fm).s : Int) := HEq.out.2.2.2.trans (if_pos HEq.out.1.symm)
                have HCa : Hid (∀ W, W8.grownBy W none → Calls Try.prog 15 #[.slice ta tn tc, .slice ia im ic] W fun e w' => e = .returned (.int .i64 (A.length : Int)) ∧ W.grownBy w' none) := fun W g => by
                  rw [eA, Ab.go_sm]
                  exact count_any (HT.out W (grown_trans HG8.out g)) (by have := HG1.out.size; have := HG8.out.size; have := g.size; omega) hc (HI.out W (grown_trans HG8.out g)) ho1
                have HCr : Hid (∀ W, W8.grownBy W none → Calls Try.prog 15 #[.slice ta tn tc, .slice fa fm fc] W fun e w' => e = .returned (.int .i64 (R.length : Int)) ∧ W.grownBy w' none) := fun W g => by
                  rw [eR, Ab.go_sm]
                  exact count_any (HT.out W (grown_trans HG8.out g)) (by have := HG1.out.size; have := HG8.out.size; have := g.size; omega) hc (HF.out W (grown_trans HG8.out g)) ho2
                have HAa : Hid (∀ W, W8.grownBy W none → Calls Try.prog 16 #[.slice aa A.length ac] W fun e w' => e = .returned (.bool true) ∧ W.grownBy w' none) := fun W g => apart_any (HPa.out.grow (grown_trans HG68.out g)) (by rw [eA]; exact (Ab.go_apt _ _ _).1) hla'
                have HAr : Hid (∀ W, W8.grownBy W none → Calls Try.prog 16 #[.slice ra R.length rc] W fun e w' => e = .returned (.bool true) ∧ W.grownBy w' none) := fun W g => apart_any (HPr.out.grow (grown_trans HG68.out g)) (by rw [eR]; exact (Ab.go_apt _ _ _).1) hlr'
                have HCn : Hid ((Ab.cn A : Int) = ((Ab.go (Ab.kw T I) 0 im).s : Int)) := by rw [eA]; have h9 := Ab.go_cn (Ab.kw T I) 0 im; exact congrArg (fun x : Nat => (x : Int)) (by omega)
                have HSt : Hid (∀ i, i < R.length → (R.getD i Ab.pc0).st = true → ((Ab.go (Ab.kw T I) 0 im).s : Int) ≤ (R.getD i Ab.pc0).n ∧ (R.getD i Ab.pc0).n < s) := fun i hi => by
                  rw [List.getD_eq_getElem?_getD, List.getElem?_eq_getElem hi]
                  intro hst
                  have h9 := Ab.go_st (Ab.kw T F) (Ab.go (Ab.kw T I) 0 im).s fm R[i] (by rw [← eR]; exact List.getElem_mem hi) hst
                  rw [eS]
                  exact h9
                have HPp : Hid (∀ m, im = m + 1 → (Ab.go (Ab.kw T I) 0 m).l <+: A) := fun m hm => by rw [eA, hm]; exact Ab.go_pre _ _ _
                have HOk : Hid (Ty.chk T tn = 0 ∧ Ab.okB T tn I im = true) := ⟨hc, ho1⟩
                have k0 := (HK6.out.grow HG68.out).cell (i := 0) rfl
                have k1 := (HK6.out.grow HG68.out).cell (i := 1) rfl
                have k2 := (HK6.out.grow HG68.out).cell (i := 2) rfl
                have b0 := (HK1.out.grow HG8.out).cell (i := 0) rfl
                have b1 := (HK1.out.grow HG8.out).cell (i := 1) rfl
                have b2 := (HK1.out.grow HG8.out).cell (i := 2) rfl
                clear hc ho1 ho2 eA eR eS HEq HPl
                obtain ⟨an, han⟩ : ∃ an, an = A.length := ⟨_, rfl⟩
                obtain ⟨rn, hrn⟩ : ∃ rn, rn = R.length := ⟨_, rfl⟩
                rw [← han] at HCa HAa k0 hla'
                rw [← hrn] at HCr HAr k1 hlr'
                have HAn : Hid (an = A.length ∧ rn = R.length) := ⟨han, hrn⟩
                rw [← han, ← hrn] at HK6
                rw [← han] at HPa hla
                rw [← hrn] at HPr HSt hlr
                clear han hrn
                refine region_gd (fun w w' => w.grownBy w' none) (fun h1 h2 => grown_trans h1 h2) (fun w => World.grownBy.refl _ _) 31 (psiL [eqV (.pointer (some ⟨B6, 0, none⟩)), eqV (.slice aa an ac), eqV (.int .i64 (an : Int)), eqV (.pointer (some ⟨B1, 0, none⟩)), eqV (.slice ta tn tc), eqV (.pointer (some ⟨B1, 1, none⟩)), eqV (.slice ia im ic), eqV (.int .i64 (an : Int)), eqV (.bool false), eqV (.bool false), eqV (.pointer (some ⟨B6, 1, none⟩)), eqV (.slice ra rn rc), eqV (.int .i64 (rn : Int)), eqV (.pointer (some ⟨B1, 0, none⟩)), eqV (.slice ta tn tc), eqV (.pointer (some ⟨B1, 2, none⟩)), eqV (.slice fa fm fc), eqV (.int .i64 (rn : Int)), eqV (.bool false), eqV (.bool false), eqV (.bool false), eqV (.pointer (some ⟨B6, 0, none⟩)), eqV (.slice aa an ac), eqV (.bool true), eqV (.bool false), eqV (.bool false), eqV (.bool false), eqV (.pointer (some ⟨B6, 1, none⟩)), eqV (.slice ra rn rc), eqV (.bool true), eqV (.bool false)]) (by kernel_rfl) (by kernel_rfl) (by kernel_rfl) (by kernel_rfl) (psiL_hst (by repeat (first | exact stab_nil | refine stab_cons ?_ ?_ | exact stab_eq _))) ?_ ?_
                · simp only [List.take_succ_cons, List.take_zero]
                  refine ⟨?_, ?_, ?_, ?_, ?_, ?_, ?_, ?_, ?_, ?_, ?_, ?_, ?_, ?_, ?_, ?_, ?_, ?_, ?_, ?_, ?_, ?_, ?_, ?_, ?_, ?_, ?_, ?_, ?_, ?_, ?_, trivial⟩
                  · intro VV W0 AA g hV hs hz
                    refine outG_yes (by simp [wantedV]) ?_
                    have e05 := hz 5 (.pointer (some ⟨B6, 0, none⟩)) (by kernel_rfl) rfl
                    clear hV hs hz
                    refine outR_val (by kernel_rfl) (v := .pointer (some ⟨B6, 0, none⟩)) (w' := W0) ?_ (World.grownBy.refl _ _) rfl
                    simp [go_sem, e05]
                  · intro VV W0 AA g hV hs hz
                    refine outG_yes (by simp [wantedV]) ?_
                    have gD : W8.grownBy W0 none := grown_trans (grown_drew (World.grownBy.refl _ none)) g
                    have q0 : VV 0 = .pointer (some ⟨B6, 0, none⟩) := hV 0 (by kernel_rfl)
                    have e0 := hs 74 0 (by kernel_rfl) (by kernel_rfl)
                    have x0 := (gD.cell k0 (by simp))
                    clear hV hs hz
                    refine outR_val (by kernel_rfl) (v := .slice aa an ac) (w' := W0) ?_ (World.grownBy.refl _ _) rfl
                    simp [go_sem, q0, e0, x0]
                  · intro VV W0 AA g hV hs hz
                    refine outG_yes (by simp [wantedV]) ?_
                    have q1 : VV 1 = .slice aa an ac := hV 1 (by kernel_rfl)
                    have e1 := hs 75 1 (by kernel_rfl) (by kernel_rfl)
                    clear hV hs hz
                    refine outR_val (by kernel_rfl) (v := .int .i64 (an : Int)) (w' := W0) ?_ (World.grownBy.refl _ _) rfl
                    simp [go_sem, q1, e1]
                  · intro VV W0 AA g hV hs hz
                    refine outG_yes (by simp [wantedV]) ?_
                    have e04 := hz 4 (.pointer (some ⟨B1, 0, none⟩)) (by kernel_rfl) rfl
                    clear hV hs hz
                    refine outR_val (by kernel_rfl) (v := .pointer (some ⟨B1, 0, none⟩)) (w' := W0) ?_ (World.grownBy.refl _ _) rfl
                    simp [go_sem, e04]
                  · intro VV W0 AA g hV hs hz
                    refine outG_yes (by simp [wantedV]) ?_
                    have gD : W8.grownBy W0 none := grown_trans (grown_drew (World.grownBy.refl _ none)) g
                    have q3 : VV 3 = .pointer (some ⟨B1, 0, none⟩) := hV 3 (by kernel_rfl)
                    have e3 := hs 77 3 (by kernel_rfl) (by kernel_rfl)
                    have x0 := (gD.cell b0 (by simp))
                    clear hV hs hz
                    refine outR_val (by kernel_rfl) (v := .slice ta tn tc) (w' := W0) ?_ (World.grownBy.refl _ _) rfl
                    simp [go_sem, q3, e3, x0]
                  · intro VV W0 AA g hV hs hz
                    refine outG_yes (by simp [wantedV]) ?_
                    have e04 := hz 4 (.pointer (some ⟨B1, 0, none⟩)) (by kernel_rfl) rfl
                    clear hV hs hz
                    refine outR_val (by kernel_rfl) (v := .pointer (some ⟨B1, 1, none⟩)) (w' := W0) ?_ (World.grownBy.refl _ _) rfl
                    simp [go_sem, e04]
                  · intro VV W0 AA g hV hs hz
                    refine outG_yes (by simp [wantedV]) ?_
                    have gD : W8.grownBy W0 none := grown_trans (grown_drew (World.grownBy.refl _ none)) g
                    have q5 : VV 5 = .pointer (some ⟨B1, 1, none⟩) := hV 5 (by kernel_rfl)
                    have e5 := hs 79 5 (by kernel_rfl) (by kernel_rfl)
                    have x0 := (gD.cell b1 (by simp))
                    clear hV hs hz
                    refine outR_val (by kernel_rfl) (v := .slice ia im ic) (w' := W0) ?_ (World.grownBy.refl _ _) rfl
                    simp [go_sem, q5, e5, x0]
                  · intro VV W0 AA g hV hs hz
                    refine outG_yes (by simp [wantedV]) ?_
                    have gD : W8.grownBy W0 none := grown_trans (grown_drew (World.grownBy.refl _ none)) g
                    have q4 : VV 4 = .slice ta tn tc := hV 4 (by kernel_rfl)
                    have e4 := hs 78 4 (by kernel_rfl) (by kernel_rfl)
                    have q6 : VV 6 = .slice ia im ic := hV 6 (by kernel_rfl)
                    have e6 := hs 80 6 (by kernel_rfl) (by kernel_rfl)
                    clear hV hs hz
                    refine outR_call (by kernel_rfl) (f := 15) ?_ ((HCa.out W0 gD).mono fun e w2 ⟨he, hg⟩ => ⟨_, he, hg, rfl⟩)
                    simp [go_sem, q4, e4, q6, e6]
                  · intro VV W0 AA g hV hs hz
                    refine outG_yes (by simp [wantedV]) ?_
                    have q2 : VV 2 = .int .i64 (an : Int) := hV 2 (by kernel_rfl)
                    have e2 := hs 76 2 (by kernel_rfl) (by kernel_rfl)
                    have q7 : VV 7 = .int .i64 (an : Int) := hV 7 (by kernel_rfl)
                    have e7 := hs 81 7 (by kernel_rfl) (by kernel_rfl)
                    clear hV hs hz
                    refine outR_val (by kernel_rfl) (v := .bool false) (w' := W0) ?_ (World.grownBy.refl _ _) rfl
                    simp [go_sem, q2, e2, q7, e7]
                  · intro VV W0 AA g hV hs hz
                    refine outG_yes (by simp [wantedV]) ?_
                    have q8 : VV 8 = .bool false := hV 8 (by kernel_rfl)
                    have e8 := hs 82 8 (by kernel_rfl) (by kernel_rfl)
                    clear hV hs hz
                    refine outR_val (by kernel_rfl) (v := .bool false) (w' := W0) ?_ (World.grownBy.refl _ _) rfl
                    simp [go_sem, q8, e8]
                  · intro VV W0 AA g hV hs hz
                    have qg : VV 9 = .bool false := hV 9 (by kernel_rfl)
                    refine outG_yes (by simp [wantedV, boolOf, qg]) ?_
                    have e05 := hz 5 (.pointer (some ⟨B6, 0, none⟩)) (by kernel_rfl) rfl
                    clear hV hs hz qg
                    refine outR_val (by kernel_rfl) (v := .pointer (some ⟨B6, 1, none⟩)) (w' := W0) ?_ (World.grownBy.refl _ _) rfl
                    simp [go_sem, e05]
                  · intro VV W0 AA g hV hs hz
                    have qg : VV 9 = .bool false := hV 9 (by kernel_rfl)
                    refine outG_yes (by simp [wantedV, boolOf, qg]) ?_
                    have gD : W8.grownBy W0 none := grown_trans (grown_drew (World.grownBy.refl _ none)) g
                    have q10 : VV 10 = .pointer (some ⟨B6, 1, none⟩) := hV 10 (by kernel_rfl)
                    have e10 := hs 84 10 (by kernel_rfl) (by kernel_rfl)
                    have x0 := (gD.cell k1 (by simp))
                    clear hV hs hz qg
                    refine outR_val (by kernel_rfl) (v := .slice ra rn rc) (w' := W0) ?_ (World.grownBy.refl _ _) rfl
                    simp [go_sem, q10, e10, x0]
                  · intro VV W0 AA g hV hs hz
                    have qg : VV 9 = .bool false := hV 9 (by kernel_rfl)
                    refine outG_yes (by simp [wantedV, boolOf, qg]) ?_
                    have q11 : VV 11 = .slice ra rn rc := hV 11 (by kernel_rfl)
                    have e11 := hs 85 11 (by kernel_rfl) (by kernel_rfl)
                    clear hV hs hz qg
                    refine outR_val (by kernel_rfl) (v := .int .i64 (rn : Int)) (w' := W0) ?_ (World.grownBy.refl _ _) rfl
                    simp [go_sem, q11, e11]
                  · intro VV W0 AA g hV hs hz
                    have qg : VV 9 = .bool false := hV 9 (by kernel_rfl)
                    refine outG_yes (by simp [wantedV, boolOf, qg]) ?_
                    have e04 := hz 4 (.pointer (some ⟨B1, 0, none⟩)) (by kernel_rfl) rfl
                    clear hV hs hz qg
                    refine outR_val (by kernel_rfl) (v := .pointer (some ⟨B1, 0, none⟩)) (w' := W0) ?_ (World.grownBy.refl _ _) rfl
                    simp [go_sem, e04]
                  · intro VV W0 AA g hV hs hz
                    have qg : VV 9 = .bool false := hV 9 (by kernel_rfl)
                    refine outG_yes (by simp [wantedV, boolOf, qg]) ?_
                    have gD : W8.grownBy W0 none := grown_trans (grown_drew (World.grownBy.refl _ none)) g
                    have q13 : VV 13 = .pointer (some ⟨B1, 0, none⟩) := hV 13 (by kernel_rfl)
                    have e13 := hs 87 13 (by kernel_rfl) (by kernel_rfl)
                    have x0 := (gD.cell b0 (by simp))
                    clear hV hs hz qg
                    refine outR_val (by kernel_rfl) (v := .slice ta tn tc) (w' := W0) ?_ (World.grownBy.refl _ _) rfl
                    simp [go_sem, q13, e13, x0]
                  · intro VV W0 AA g hV hs hz
                    have qg : VV 9 = .bool false := hV 9 (by kernel_rfl)
                    refine outG_yes (by simp [wantedV, boolOf, qg]) ?_
                    have e04 := hz 4 (.pointer (some ⟨B1, 0, none⟩)) (by kernel_rfl) rfl
                    clear hV hs hz qg
                    refine outR_val (by kernel_rfl) (v := .pointer (some ⟨B1, 2, none⟩)) (w' := W0) ?_ (World.grownBy.refl _ _) rfl
                    simp [go_sem, e04]
                  · intro VV W0 AA g hV hs hz
                    have qg : VV 9 = .bool false := hV 9 (by kernel_rfl)
                    refine outG_yes (by simp [wantedV, boolOf, qg]) ?_
                    have gD : W8.grownBy W0 none := grown_trans (grown_drew (World.grownBy.refl _ none)) g
                    have q15 : VV 15 = .pointer (some ⟨B1, 2, none⟩) := hV 15 (by kernel_rfl)
                    have e15 := hs 89 15 (by kernel_rfl) (by kernel_rfl)
                    have x0 := (gD.cell b2 (by simp))
                    clear hV hs hz qg
                    refine outR_val (by kernel_rfl) (v := .slice fa fm fc) (w' := W0) ?_ (World.grownBy.refl _ _) rfl
                    simp [go_sem, q15, e15, x0]
                  · intro VV W0 AA g hV hs hz
                    have qg : VV 9 = .bool false := hV 9 (by kernel_rfl)
                    refine outG_yes (by simp [wantedV, boolOf, qg]) ?_
                    have gD : W8.grownBy W0 none := grown_trans (grown_drew (World.grownBy.refl _ none)) g
                    have q14 : VV 14 = .slice ta tn tc := hV 14 (by kernel_rfl)
                    have e14 := hs 88 14 (by kernel_rfl) (by kernel_rfl)
                    have q16 : VV 16 = .slice fa fm fc := hV 16 (by kernel_rfl)
                    have e16 := hs 90 16 (by kernel_rfl) (by kernel_rfl)
                    clear hV hs hz qg
                    refine outR_call (by kernel_rfl) (f := 15) ?_ ((HCr.out W0 gD).mono fun e w2 ⟨he, hg⟩ => ⟨_, he, hg, rfl⟩)
                    simp [go_sem, q14, e14, q16, e16]
                  · intro VV W0 AA g hV hs hz
                    have qg : VV 9 = .bool false := hV 9 (by kernel_rfl)
                    refine outG_yes (by simp [wantedV, boolOf, qg]) ?_
                    have q12 : VV 12 = .int .i64 (rn : Int) := hV 12 (by kernel_rfl)
                    have e12 := hs 86 12 (by kernel_rfl) (by kernel_rfl)
                    have q17 : VV 17 = .int .i64 (rn : Int) := hV 17 (by kernel_rfl)
                    have e17 := hs 91 17 (by kernel_rfl) (by kernel_rfl)
                    clear hV hs hz qg
                    refine outR_val (by kernel_rfl) (v := .bool false) (w' := W0) ?_ (World.grownBy.refl _ _) rfl
                    simp [go_sem, q12, e12, q17, e17]
                  · intro VV W0 AA g hV hs hz
                    refine outG_yes (by simp [wantedV]) ?_
                    have q9 : VV 9 = .bool false := hV 9 (by kernel_rfl)
                    have e9 := hs 83 9 (by kernel_rfl) (by kernel_rfl)
                    have q18 : VV 18 = .bool false := hV 18 (by kernel_rfl)
                    have e18 := hs 92 18 (by kernel_rfl) (by kernel_rfl)
                    clear hV hs hz
                    refine outR_val (by kernel_rfl) (v := .bool false) (w' := W0) ?_ (World.grownBy.refl _ _) rfl
                    simp [go_sem, q9, e9, q18, e18]
                  · intro VV W0 AA g hV hs hz
                    refine outG_yes (by simp [wantedV]) ?_
                    have q19 : VV 19 = .bool false := hV 19 (by kernel_rfl)
                    have e19 := hs 93 19 (by kernel_rfl) (by kernel_rfl)
                    clear hV hs hz
                    refine outR_val (by kernel_rfl) (v := .bool false) (w' := W0) ?_ (World.grownBy.refl _ _) rfl
                    simp [go_sem, q19, e19]
                  · intro VV W0 AA g hV hs hz
                    have qg : VV 20 = .bool false := hV 20 (by kernel_rfl)
                    refine outG_yes (by simp [wantedV, boolOf, qg]) ?_
                    have e05 := hz 5 (.pointer (some ⟨B6, 0, none⟩)) (by kernel_rfl) rfl
                    clear hV hs hz qg
                    refine outR_val (by kernel_rfl) (v := .pointer (some ⟨B6, 0, none⟩)) (w' := W0) ?_ (World.grownBy.refl _ _) rfl
                    simp [go_sem, e05]
                  · intro VV W0 AA g hV hs hz
                    have qg : VV 20 = .bool false := hV 20 (by kernel_rfl)
                    refine outG_yes (by simp [wantedV, boolOf, qg]) ?_
                    have gD : W8.grownBy W0 none := grown_trans (grown_drew (World.grownBy.refl _ none)) g
                    have q21 : VV 21 = .pointer (some ⟨B6, 0, none⟩) := hV 21 (by kernel_rfl)
                    have e21 := hs 95 21 (by kernel_rfl) (by kernel_rfl)
                    have x0 := (gD.cell k0 (by simp))
                    clear hV hs hz qg
                    refine outR_val (by kernel_rfl) (v := .slice aa an ac) (w' := W0) ?_ (World.grownBy.refl _ _) rfl
                    simp [go_sem, q21, e21, x0]
                  · intro VV W0 AA g hV hs hz
                    have qg : VV 20 = .bool false := hV 20 (by kernel_rfl)
                    refine outG_yes (by simp [wantedV, boolOf, qg]) ?_
                    have gD : W8.grownBy W0 none := grown_trans (grown_drew (World.grownBy.refl _ none)) g
                    have q22 : VV 22 = .slice aa an ac := hV 22 (by kernel_rfl)
                    have e22 := hs 96 22 (by kernel_rfl) (by kernel_rfl)
                    clear hV hs hz qg
                    refine outR_call (by kernel_rfl) (f := 16) ?_ ((HAa.out W0 gD).mono fun e w2 ⟨he, hg⟩ => ⟨_, he, hg, rfl⟩)
                    simp [go_sem, q22, e22]
                  · intro VV W0 AA g hV hs hz
                    have qg : VV 20 = .bool false := hV 20 (by kernel_rfl)
                    refine outG_yes (by simp [wantedV, boolOf, qg]) ?_
                    have q23 : VV 23 = .bool true := hV 23 (by kernel_rfl)
                    have e23 := hs 97 23 (by kernel_rfl) (by kernel_rfl)
                    clear hV hs hz qg
                    refine outR_val (by kernel_rfl) (v := .bool false) (w' := W0) ?_ (World.grownBy.refl _ _) rfl
                    simp [go_sem, q23, e23]
                  · intro VV W0 AA g hV hs hz
                    refine outG_yes (by simp [wantedV]) ?_
                    have q20 : VV 20 = .bool false := hV 20 (by kernel_rfl)
                    have e20 := hs 94 20 (by kernel_rfl) (by kernel_rfl)
                    have q24 : VV 24 = .bool false := hV 24 (by kernel_rfl)
                    have e24 := hs 98 24 (by kernel_rfl) (by kernel_rfl)
                    clear hV hs hz
                    refine outR_val (by kernel_rfl) (v := .bool false) (w' := W0) ?_ (World.grownBy.refl _ _) rfl
                    simp [go_sem, q20, e20, q24, e24]
                  · intro VV W0 AA g hV hs hz
                    refine outG_yes (by simp [wantedV]) ?_
                    have q25 : VV 25 = .bool false := hV 25 (by kernel_rfl)
                    have e25 := hs 99 25 (by kernel_rfl) (by kernel_rfl)
                    clear hV hs hz
                    refine outR_val (by kernel_rfl) (v := .bool false) (w' := W0) ?_ (World.grownBy.refl _ _) rfl
                    simp [go_sem, q25, e25]
                  · intro VV W0 AA g hV hs hz
                    have qg : VV 26 = .bool false := hV 26 (by kernel_rfl)
                    refine outG_yes (by simp [wantedV, boolOf, qg]) ?_
                    have e05 := hz 5 (.pointer (some ⟨B6, 0, none⟩)) (by kernel_rfl) rfl
                    clear hV hs hz qg
                    refine outR_val (by kernel_rfl) (v := .pointer (some ⟨B6, 1, none⟩)) (w' := W0) ?_ (World.grownBy.refl _ _) rfl
                    simp [go_sem, e05]
                  · intro VV W0 AA g hV hs hz
                    have qg : VV 26 = .bool false := hV 26 (by kernel_rfl)
                    refine outG_yes (by simp [wantedV, boolOf, qg]) ?_
                    have gD : W8.grownBy W0 none := grown_trans (grown_drew (World.grownBy.refl _ none)) g
                    have q27 : VV 27 = .pointer (some ⟨B6, 1, none⟩) := hV 27 (by kernel_rfl)
                    have e27 := hs 101 27 (by kernel_rfl) (by kernel_rfl)
                    have x0 := (gD.cell k1 (by simp))
                    clear hV hs hz qg
                    refine outR_val (by kernel_rfl) (v := .slice ra rn rc) (w' := W0) ?_ (World.grownBy.refl _ _) rfl
                    simp [go_sem, q27, e27, x0]
                  · intro VV W0 AA g hV hs hz
                    have qg : VV 26 = .bool false := hV 26 (by kernel_rfl)
                    refine outG_yes (by simp [wantedV, boolOf, qg]) ?_
                    have gD : W8.grownBy W0 none := grown_trans (grown_drew (World.grownBy.refl _ none)) g
                    have q28 : VV 28 = .slice ra rn rc := hV 28 (by kernel_rfl)
                    have e28 := hs 102 28 (by kernel_rfl) (by kernel_rfl)
                    clear hV hs hz qg
                    refine outR_call (by kernel_rfl) (f := 16) ?_ ((HAr.out W0 gD).mono fun e w2 ⟨he, hg⟩ => ⟨_, he, hg, rfl⟩)
                    simp [go_sem, q28, e28]
                  · intro VV W0 AA g hV hs hz
                    have qg : VV 26 = .bool false := hV 26 (by kernel_rfl)
                    refine outG_yes (by simp [wantedV, boolOf, qg]) ?_
                    have q29 : VV 29 = .bool true := hV 29 (by kernel_rfl)
                    have e29 := hs 103 29 (by kernel_rfl) (by kernel_rfl)
                    clear hV hs hz qg
                    refine outR_val (by kernel_rfl) (v := .bool false) (w' := W0) ?_ (World.grownBy.refl _ _) rfl
                    simp [go_sem, q29, e29]
                · intro VV W0 g hV
                  have gD : W8.grownBy W0 none := grown_trans (grown_drew (World.grownBy.refl _ none)) g
                  have h0 : VV 0 = .pointer (some ⟨B6, 0, none⟩) := hV 0 (by decide)
                  have h1 : VV 1 = .slice aa an ac := hV 1 (by decide)
                  have h2 : VV 2 = .int .i64 (an : Int) := hV 2 (by decide)
                  have h3 : VV 3 = .pointer (some ⟨B1, 0, none⟩) := hV 3 (by decide)
                  have h4 : VV 4 = .slice ta tn tc := hV 4 (by decide)
                  have h5 : VV 5 = .pointer (some ⟨B1, 1, none⟩) := hV 5 (by decide)
                  have h6 : VV 6 = .slice ia im ic := hV 6 (by decide)
                  have h7 : VV 7 = .int .i64 (an : Int) := hV 7 (by decide)
                  have h8 : VV 8 = .bool false := hV 8 (by decide)
                  have h9 : VV 9 = .bool false := hV 9 (by decide)
                  have h10 : VV 10 = .pointer (some ⟨B6, 1, none⟩) := hV 10 (by decide)
                  have h11 : VV 11 = .slice ra rn rc := hV 11 (by decide)
                  have h12 : VV 12 = .int .i64 (rn : Int) := hV 12 (by decide)
                  have h13 : VV 13 = .pointer (some ⟨B1, 0, none⟩) := hV 13 (by decide)
                  have h14 : VV 14 = .slice ta tn tc := hV 14 (by decide)
                  have h15 : VV 15 = .pointer (some ⟨B1, 2, none⟩) := hV 15 (by decide)
                  have h16 : VV 16 = .slice fa fm fc := hV 16 (by decide)
                  have h17 : VV 17 = .int .i64 (rn : Int) := hV 17 (by decide)
                  have h18 : VV 18 = .bool false := hV 18 (by decide)
                  have h19 : VV 19 = .bool false := hV 19 (by decide)
                  have h20 : VV 20 = .bool false := hV 20 (by decide)
                  have h21 : VV 21 = .pointer (some ⟨B6, 0, none⟩) := hV 21 (by decide)
                  have h22 : VV 22 = .slice aa an ac := hV 22 (by decide)
                  have h23 : VV 23 = .bool true := hV 23 (by decide)
                  have h24 : VV 24 = .bool false := hV 24 (by decide)
                  have h25 : VV 25 = .bool false := hV 25 (by decide)
                  have h26 : VV 26 = .bool false := hV 26 (by decide)
                  have h27 : VV 27 = .pointer (some ⟨B6, 1, none⟩) := hV 27 (by decide)
                  have h28 : VV 28 = .slice ra rn rc := hV 28 (by decide)
                  have h29 : VV 29 = .bool true := hV 29 (by decide)
                  have h30 : VV 30 = .bool false := hV 30 (by decide)
                  simp [frV, dstOf, Act.put, h0, h1, h2, h3, h4, h5, h6, h7, h8, h9, h10, h11, h12, h13, h14, h15, h16, h17, h18, h19, h20, h21, h22, h23, h24, h25, h26, h27, h28, h29, h30]
                  clear h0 h1 h2 h3 h4 h5 h6 h7 h8 h9 h10 h11 h12 h13 h14 h15 h16 h17 h18 h19 h20 h21 h22 h23 h24 h25 h26 h27 h28 h29 h30 hV g
                  have GR : Hid (W8.grownBy W0 none) := gD
                  clear gD
                  go_wp2_with fail
                  have HG89 : Hid (W6.grownBy W0 none) := grown_trans HG68.out GR.out
                  have HG9 : Hid (W1.grownBy W0 none) := grown_trans HG8.out GR.out
                  obtain ⟨W9, hW9⟩ : ∃ x, x = W0 := ⟨_, rfl⟩
                  rw [← hW9] at HG89 HG9 ⊢
                  clear hW9 GR HCa HCr HAa HAr b0 b1 b2 k0 k1 k2
                  have k0 := (HK6.out.grow HG89.out).cell (i := 0) rfl
                  have HTk : Hid (∀ j, j < an → Ab.cn (A.take (j + 1)) = Ab.cn (A.take j) + if (A.getD j Ab.pc0).st = true then 1 else 0) := fun j hj => by
                    have hj' : j < A.length := by have := HAn.out.1; omega
                    rw [List.take_succ_eq_append_getElem hj', Ab.cn_app, List.getD_eq_getElem?_getD, List.getElem?_eq_getElem hj']
                    show _ + Ab.cn [A[j]] = _ + if A[j].st = true then 1 else 0
                    unfold Ab.cn
                    cases h : A[j].st <;> simp [h]
                  have HTl : Hid (∀ j, Ab.cn (A.take j) ≤ 1000) := fun j => by
                    have h1 : (A.take j).length ≤ 1000 := by rw [List.length_take]; have := HAn.out.1; omega
                    exact Nat.le_trans (List.length_filter_le _ _) h1
                  go_loopw [9, 10] (fun sv ix wr => ∃ j : Nat, ix = .int .i64 j ∧ j ≤ an ∧ sv = .int .i64 ((Ab.cn (A.take j) : Nat) : Int) ∧ wr = W9) (fun _ ix _ => an - (intOf ix).toNat)
                  case atStart => exact ⟨0, rfl, Nat.zero_le _, rfl, rfl⟩
                  case round =>
                    obtain ⟨j, rfl, hj, rfl, hwr⟩ := hrel
                    rw [hwr]
                    clear hwr wr
                    by_cases hja : j < an
                    · have hja' : (j : Int) < an := by omega
                      rcases (HPa.out.grow HG89.out).lie with h0 | ⟨pb, po, e1, hc1⟩
                      · omega
                      subst e1
                      have hac := HPa.out.le
                      obtain ⟨c1, c2⟩ := hc1 j hja
                      have hcn := HTk.out j hja
                      have hcl := HTl.out j
                      try simp only at c1
                      generalize Ab.cn (A.take j) = q at *
                      have hcl' : (q : Int) ≤ 1000 := by omega
                      clear hc1 c2
                      cases hst : (A.getD j Ab.pc0).st
                      · rw [hst] at c1 hcn
                        have hq5 : Ab.cn (A.take (j + 1)) = q := by simpa using hcn
                        have HQ : Hid (Ab.cn (A.take (j + 1)) = q) := hq5
                        clear hcn hst hq5
                        go_wp2_with fail
                        go_roundw
                        case rel => exact ⟨j + 1, by go_num, by omega, by rw [HQ.out], by first | rfl | trivial⟩
                        case measure => simp [intOf]; omega
                      · rw [hst] at c1 hcn
                        have hq5 : Ab.cn (A.take (j + 1)) = q + 1 := by simpa using hcn
                        have HQ : Hid (Ab.cn (A.take (j + 1)) = q + 1) := hq5
                        clear hcn hst hq5
                        go_wp2_with fail
                        go_roundw
                        case rel => exact ⟨j + 1, by go_num, by omega, by rw [HQ.out]; go_num, by first | rfl | trivial⟩
                        case measure => simp [intOf]; omega
                    · obtain rfl : an = j := by omega
                      have hcq : ((Ab.cn (A.take an) : Nat) : Int) = ((Ab.go (Ab.kw T I) 0 im).s : Int) := by rw [HAn.out.1, List.take_length]; exact HCn.out
                      have hcl := HTl.out an
                      rw [hcq]
                      have hzb : ((Ab.go (Ab.kw T I) 0 im).s : Int) ≤ 1000 := by omega
                      have hz0 : 0 ≤ ((Ab.go (Ab.kw T I) 0 im).s : Int) := by omega
                      clear hcq
                      generalize ((Ab.go (Ab.kw T I) 0 im).s : Int) = z at *
                      clear HTk HTl hcl
                      go_wp2_with fail
                      clear k0
                      have k1 := (HK6.out.grow HG89.out).cell (i := 1) rfl
                      go_loopw [11] (fun ix wr => ∃ i : Nat, ix = .int .i64 i ∧ i ≤ rn ∧ W9.grownBy wr none) (fun ix _ => rn - (intOf ix).toNat)
                      case atStart => exact ⟨0, rfl, Nat.zero_le _, World.grownBy.refl _ _⟩
                      case round =>
                        obtain ⟨i, rfl, hi, hgx⟩ := hrel
                        obtain ⟨WX, hwx⟩ : ∃ x, x = wr := ⟨_, rfl⟩
                        rw [← hwx] at hgx ⊢
                        clear hwx k1
                        have HGx : Hid (W9.grownBy WX none) := hgx
                        have k1 := (HK6.out.grow (grown_trans HG89.out hgx)).cell (i := 1) rfl
                        have k2 := (HK6.out.grow (grown_trans HG89.out hgx)).cell (i := 2) rfl
                        by_cases hir : i < rn
                        · have hir' : (i : Int) < rn := by omega
                          rcases (HPr.out.grow (grown_trans HG89.out hgx)).lie with h0 | ⟨pb, po, e1, hc1⟩
                          · omega
                          subst e1
                          have hrc := HPr.out.le
                          obtain ⟨c1, c2⟩ := hc1 i hir
                          have hst := HSt.out i hir
                          try simp only at c1
                          try simp only at c2
                          generalize R.getD i Ab.pc0 = p at *
                          obtain ⟨pst, pn⟩ := p
                          try simp only at c1
                          try simp only at c2
                          clear hc1 hgx
                          cases pst
                          · clear hst
                            as_aux_lemma =>
                              go_wp2_with fail
                              go_quiet (fail)
                              go_wp2
                              go_roundw
                              case rel => exact ⟨i + 1, by go_num, by omega, grown_trans HGx.out (grown_drewN (World.grownBy.refl _ none) _)⟩
                              case measure => simp [intOf]; omega
                          · obtain ⟨x1, x2⟩ := hst rfl
                            simp only at x1 x2
                            clear hst
                            as_aux_lemma =>
                              go_wp2_with fail
                              go_quiet (fail)
                              go_wp2
                              go_roundw
                              case rel => exact ⟨i + 1, by go_num, by omega, grown_trans HGx.out (grown_drewN (World.grownBy.refl _ none) _)⟩
                              case measure => simp [intOf]; omega
                        · obtain rfl : i = rn := by omega
                          clear k2
                          have b0 := (HK1.out.grow (grown_trans HG9.out hgx)).cell (i := 0) rfl
                          have b1 := (HK1.out.grow (grown_trans HG9.out hgx)).cell (i := 1) rfl
                          by_cases him : im = 0
                          · subst him
                            go_wp2_with fail
                            refine ⟨⟨k + 1, by go_num, by omega, ?_⟩, by simp [intOf]; omega⟩
                            exact grown_trans HG1.out (grown_trans HG9.out HGx.out)
                          · obtain ⟨m, rfl⟩ : ∃ m, im = m + 1 := ⟨im - 1, by omega⟩
                            have hgx1 := grown_trans HG9.out hgx
                            obtain ⟨lb, lo, hla2, _⟩ := (HI.out WX hgx1).at (show 0 < m + 1 by omega)
                            subst hla2
                            have HI2 : Hid (∀ W, WX.grownBy W none → NumIn w.heap.size W (some ⟨lb, lo, none⟩) m ic I) := fun W g => (HI.out W (grown_trans hgx1 g)).cut (by omega)
                            have HCj : Hid (∀ W, WX.grownBy W none → Calls Try.prog 8 #[.slice (some ⟨lb, lo, none⟩) m ic] W fun e w' => ∃ a' c', e = .returned (.slice a' m c') ∧ NumIn w'.heap.size w' a' m c' I ∧ W.grownBy w' none) := fun W g => (copyNums_any (HI2.out W g) (fun h => by cases h) (by show m * 8 ≤ 140737488351232; omega)).mono fun e w' ⟨a', c', he, hn, _, _, hg⟩ => ⟨a', c', he, hn, hg⟩
                            have HCt2 : Hid (∀ W, WX.grownBy W none → Calls Try.prog 6 #[.slice ta tn tc] W fun e w' => ∃ a' c', e = .returned (.slice a' tn c') ∧ TysIn w'.heap.size w' a' tn c' T ∧ W.grownBy w' none) := fun W g => HCt.out W (grown_trans hgx1 g)
                            obtain ⟨hc, ho1⟩ := HOk.out
                            have hA2 : Ab.lA T tn I m (fun _ => 0) 0 = (Ab.go (Ab.kw T I) 0 m).l := if_pos (Ab.err_ok hc (Ab.ok_pre ho1) (Ab.ok_nil _ _ _))
                            have hR2 : Ab.lR T tn I m (fun _ => 0) 0 = [] := if_pos (Ab.err_ok hc (Ab.ok_pre ho1) (Ab.ok_nil _ _ _))
                            obtain ⟨A2, hA2'⟩ : ∃ A2, A2 = Ab.lA T tn I m (fun _ => 0) 0 := ⟨_, rfl⟩
                            obtain ⟨s2, hs2⟩ : ∃ s2, s2 = Ab.sN T tn I m (fun _ => 0) 0 := ⟨_, rfl⟩
                            have HPb : Hid (∀ W n2a n2c N2 n8a n8c N8, WX.grownBy W none → N2 ≤ W.heap.size → TysIn N2 W n2a tn n2c T → NumIn N8 W n8a m n8c I → Calls Try.prog 7 #[.slice n2a tn n2c, .slice n8a m n8c, .slice none 0 0] W fun e w' => ∃ x va vr, e = .returned (.tuple #[x, .int .i64 0]) ∧ AsgO w' WX.heap.size x A2 [] s2 va vr ∧ W.grownBy w' none) := fun W n2a n2c N2 n8a n8c N8 g hN2 h2 h8 => by
                              have := places_any h2 hN2 h8 (show NumIn N8 W none 0 0 (fun _ => 0) from ⟨Nat.le_refl _, Nat.zero_le _, .inl rfl⟩)
                              rw [Ab.err_ok hc (Ab.ok_pre ho1) (Ab.ok_nil _ _ _), hR2, ← hA2', ← hs2] at this
                              exact this.mono fun e w' ⟨x, va, vr, he, ho, hg⟩ => ⟨x, va, vr, he, ho.low g.size, hg⟩
                            have HPre : Hid (A2 <+: A) := by rw [hA2', hA2]; exact HPp.out m rfl
                            have hm1 : ((m + 1 : Nat) : Int) - 1 = m := by omega
                            have hm2 : ((m : Int) + 1) - 1 = m := by omega
                            have hm3 : (m : Int) ≤ 100 := by omega
                            have hm4 : IntKind.i64.wrap (m : Int) = m := by rw [IntKind.wrap_i64]; omega
                            have hmc : m ≤ ic := by omega
                            have hmd : (m : Int) ≤ ic := by omega
                            clear HCt HCi hc ho1 hA2 hR2 hA2' hs2 hgx hgx1 HPp HSt HCn
                            have HCt : Hid (∀ W, WX.grownBy W none → Calls Try.prog 6 #[.slice ta tn tc] W fun e w' => ∃ a' c', e = .returned (.slice a' tn c') ∧ TysIn w'.heap.size w' a' tn c' T ∧ W.grownBy w' none) := HCt2.out
                            go_wp2_with fail
                            go_cut [13, 14] (fun p e wx => CutA WX.heap.size 0 A2 [] s2 WX p e wx)
                            case first =>
                              as_aux_lemma =>
                                refine region_late 14 12 _ _ _ (psiL [eqV (.pointer (some ⟨B1, 0, none⟩)), eqV (.slice ta tn tc), tysV tn T, eqV (.pointer (some ⟨B1, 1, none⟩)), eqV (.slice (some ⟨lb, lo, none⟩) (m + 1) ic), eqV (.int .i64 ((m + 1 : Nat) : Int)), eqV (.int .i64 (m : Int)), eqV (.slice (some ⟨lb, lo, none⟩) m ic), numV m I, asgT WX.heap.size 0 A2 [] s2, asgT WX.heap.size 0 A2 [] s2, asgX WX.heap.size A2 [] s2, eqV (.int .i64 0), newA WX.heap.size]) (by kernel_rfl) (by kernel_rfl) rfl rfl rfl (by kernel_rfl) (by kernel_rfl) (psiL_hst (by repeat (first | exact stab_nil | refine stab_cons ?_ ?_ | exact stab_eq _ | exact stab_tys _ _ | exact stab_num _ _ | exact stab_asgT _ _ _ _ _ | exact stab_asgX _ _ _ _ | exact stab_eq _ | exact stab_newA _))) ?_ ?_ ?_
                                · simp only [List.take_succ_cons, List.take_zero]
                                  refine ⟨?_, ?_, ?_, ?_, ?_, ?_, ?_, ?_, ?_, ?_, ?_, ?_, ?_, ?_, trivial⟩
                                  · intro VV W0 AA g hV hs hz
                                    have e04 := hz 4 (.pointer (some ⟨B1, 0, none⟩)) (by kernel_rfl) rfl
                                    clear hV hs hz
                                    refine outO_val (v := .pointer (some ⟨B1, 0, none⟩)) (w' := W0) ?_ (World.grownBy.refl _ _) rfl
                                    simp [go_sem, e04]
                                  · intro VV W0 AA g hV hs hz
                                    have gD : WX.grownBy W0 none := grown_trans (grown_drew (World.grownBy.refl _ none)) g
                                    have q0 : VV 0 = .pointer (some ⟨B1, 0, none⟩) := hV 0 (by kernel_rfl)
                                    have e0 := hs 169 0 (by kernel_rfl) (by kernel_rfl)
                                    have x0 := gD.cell b0 (by simp)
                                    clear hV hs hz
                                    refine outO_val (v := .slice ta tn tc) (w' := W0) ?_ (World.grownBy.refl _ _) rfl
                                    simp [go_sem, q0, e0, x0]
                                  · intro VV W0 AA g hV hs hz
                                    have gD : WX.grownBy W0 none := grown_trans (grown_drew (World.grownBy.refl _ none)) g
                                    have q1 : VV 1 = .slice ta tn tc := hV 1 (by kernel_rfl)
                                    have e1 := hs 170 1 (by kernel_rfl) (by kernel_rfl)
                                    clear hV hs hz
                                    refine outO_call (f := 6) ?_ ((HCt.out W0 gD).mono fun e w2 ⟨a', c', he, hn, hg⟩ => ⟨_, he, hg, a', c', _, rfl, Nat.le_refl _, hn⟩)
                                    simp [go_sem, q1, e1]
                                  · intro VV W0 AA g hV hs hz
                                    have e04 := hz 4 (.pointer (some ⟨B1, 0, none⟩)) (by kernel_rfl) rfl
                                    clear hV hs hz
                                    refine outO_val (v := .pointer (some ⟨B1, 1, none⟩)) (w' := W0) ?_ (World.grownBy.refl _ _) rfl
                                    simp [go_sem, e04]
                                  · intro VV W0 AA g hV hs hz
                                    have gD : WX.grownBy W0 none := grown_trans (grown_drew (World.grownBy.refl _ none)) g
                                    have q3 : VV 3 = .pointer (some ⟨B1, 1, none⟩) := hV 3 (by kernel_rfl)
                                    have e3 := hs 172 3 (by kernel_rfl) (by kernel_rfl)
                                    have x0 := gD.cell b1 (by simp)
                                    clear hV hs hz
                                    refine outO_val (v := .slice (some ⟨lb, lo, none⟩) (m + 1) ic) (w' := W0) ?_ (World.grownBy.refl _ _) rfl
                                    simp [go_sem, q3, e3, x0]
                                  · intro VV W0 AA g hV hs hz
                                    have e012 := hz 12 (.int .i64 ((m + 1 : Nat) : Int)) (by kernel_rfl) rfl
                                    clear hV hs hz
                                    refine outO_val (v := .int .i64 ((m + 1 : Nat) : Int)) (w' := W0) ?_ (World.grownBy.refl _ _) rfl
                                    simp [go_sem, e012]
                                  · intro VV W0 AA g hV hs hz
                                    have q5 : VV 5 = .int .i64 ((m + 1 : Nat) : Int) := hV 5 (by kernel_rfl)
                                    have e5 := hs 174 5 (by kernel_rfl) (by kernel_rfl)
                                    clear hV hs hz
                                    refine outO_val (v := .int .i64 (m : Int)) (w' := W0) ?_ (World.grownBy.refl _ _) rfl
                                    simp [go_sem, q5, e5, hm2, hm4]
                                  · intro VV W0 AA g hV hs hz
                                    have q4 : VV 4 = .slice (some ⟨lb, lo, none⟩) (m + 1) ic := hV 4 (by kernel_rfl)
                                    have e4 := hs 173 4 (by kernel_rfl) (by kernel_rfl)
                                    have q6 : VV 6 = .int .i64 (m : Int) := hV 6 (by kernel_rfl)
                                    have e6 := hs 175 6 (by kernel_rfl) (by kernel_rfl)
                                    clear hV hs hz
                                    refine outO_val (v := .slice (some ⟨lb, lo, none⟩) m ic) (w' := W0) ?_ (World.grownBy.refl _ _) rfl
                                    simp [go_sem, q4, e4, q6, e6, hmd]
                                  · intro VV W0 AA g hV hs hz
                                    have gD : WX.grownBy W0 none := grown_trans (grown_drew (World.grownBy.refl _ none)) g
                                    have q7 : VV 7 = .slice (some ⟨lb, lo, none⟩) m ic := hV 7 (by kernel_rfl)
                                    have e7 := hs 176 7 (by kernel_rfl) (by kernel_rfl)
                                    clear hV hs hz
                                    refine outO_call (f := 8) ?_ ((HCj.out W0 gD).mono fun e w2 ⟨a', c', he, hn, hg⟩ => ⟨_, he, hg, a', c', _, rfl, hn⟩)
                                    simp [go_sem, q7, e7]
                                  · intro VV W0 AA g hV hs hz
                                    have gD : WX.grownBy W0 none := grown_trans (grown_drew (World.grownBy.refl _ none)) g
                                    have p2 : (tysV tn T) (VV 2) W0 := hV 2 (by kernel_rfl)
                                    have e2 := hs 171 2 (by kernel_rfl) (by kernel_rfl)
                                    have p8 : (numV m I) (VV 8) W0 := hV 8 (by kernel_rfl)
                                    have e8 := hs 177 8 (by kernel_rfl) (by kernel_rfl)
                                    clear hV hs hz
                                    obtain ⟨n2a, n2c, N2, q2, hn2, ht2⟩ := p2
                                    obtain ⟨n8a, n8c, N8, q8, hn8⟩ := p8
                                    refine outO_call (f := 7) ?_ ((HPb.out W0 n2a n2c N2 n8a n8c N8 gD hn2 ht2 hn8).mono fun e w2 ⟨x, va, vr, he, ho, hg⟩ => ⟨_, he, hg, x, va, vr, rfl, ho⟩)
                                    simp [go_sem, e2, e8, q2, q8]
                                  · intro VV W0 AA g hV hs hz
                                    have gD : WX.grownBy W0 none := grown_trans (grown_drew (World.grownBy.refl _ none)) g
                                    have p9 : (asgT WX.heap.size 0 A2 [] s2) (VV 9) W0 := hV 9 (by kernel_rfl)
                                    have e9 := hs 178 9 (by kernel_rfl) (by kernel_rfl)
                                    clear hV hs hz
                                    exact outO_val (v := VV 9) (w' := W0) (by simp [go_sem, e9]) (World.grownBy.refl _ _) p9
                                  · intro VV W0 AA g hV hs hz
                                    have gD : WX.grownBy W0 none := grown_trans (grown_drew (World.grownBy.refl _ none)) g
                                    have p10 : (asgT WX.heap.size 0 A2 [] s2) (VV 10) W0 := hV 10 (by kernel_rfl)
                                    have e10 := hs 168 10 (by kernel_rfl) (by kernel_rfl)
                                    clear hV hs hz
                                    obtain ⟨x8, a8, r8, q8, ho8⟩ := p10
                                    exact outO_val (v := x8) (w' := W0) (by simp [go_sem, e10, q8]) (World.grownBy.refl _ _) ⟨a8, r8, ho8⟩
                                  · intro VV W0 AA g hV hs hz
                                    have gD : WX.grownBy W0 none := grown_trans (grown_drew (World.grownBy.refl _ none)) g
                                    have p10 : (asgT WX.heap.size 0 A2 [] s2) (VV 10) W0 := hV 10 (by kernel_rfl)
                                    have e10 := hs 168 10 (by kernel_rfl) (by kernel_rfl)
                                    clear hV hs hz
                                    obtain ⟨x8, a8, r8, q8, _⟩ := p10
                                    exact outO_val (v := .int .i64 0) (w' := W0) (by simp [go_sem, e10, q8]) (World.grownBy.refl _ _) rfl
                                  · intro VV W0 AA g hV hs hz
                                    have gD : WX.grownBy W0 none := grown_trans (grown_drew (World.grownBy.refl _ none)) g
                                    clear hV hs hz
                                    refine outO_val (v := .pointer (some ⟨W0.heap.size, 0, none⟩)) (w' := W0.alloc (Obj.cells #[.slice none 0 0, .slice none 0 0, .int .i64 0] 31)) ?_ (World.grownBy_alloc _ _ _) ⟨W0.heap.size, rfl, Bk.new _ _ _, gD.size⟩
                                    simp [go_sem]
                                · intro VV W0 g hV
                                  have gD : WX.grownBy W0 none := grown_trans (grown_drew (World.grownBy.refl _ none)) g
                                  have h0 : VV 0 = .pointer (some ⟨B1, 0, none⟩) := hV 0 (by decide)
                                  have h1 : VV 1 = .slice ta tn tc := hV 1 (by decide)
                                  have p2 : (tysV tn T) (VV 2) W0 := hV 2 (by decide)
                                  obtain ⟨n2a, n2c, _, h2, _⟩ := p2
                                  have h3 : VV 3 = .pointer (some ⟨B1, 1, none⟩) := hV 3 (by decide)
                                  have h4 : VV 4 = .slice (some ⟨lb, lo, none⟩) (m + 1) ic := hV 4 (by decide)
                                  have h5 : VV 5 = .int .i64 ((m + 1 : Nat) : Int) := hV 5 (by decide)
                                  have h6 : VV 6 = .int .i64 (m : Int) := hV 6 (by decide)
                                  have h7 : VV 7 = .slice (some ⟨lb, lo, none⟩) m ic := hV 7 (by decide)
                                  have p8 : (numV m I) (VV 8) W0 := hV 8 (by decide)
                                  obtain ⟨n8a, n8c, _, h8, _⟩ := p8
                                  have p9 : (asgT WX.heap.size 0 A2 [] s2) (VV 9) W0 := hV 9 (by decide)
                                  obtain ⟨y9, h9⟩ : ∃ y, VV 9 = y := ⟨_, rfl⟩
                                  clear p9
                                  have p10 : (asgT WX.heap.size 0 A2 [] s2) (VV 10) W0 := hV 10 (by decide)
                                  obtain ⟨x8, a8, r8, h10, _⟩ := p10
                                  have p11 : (asgX WX.heap.size A2 [] s2) (VV 11) W0 := hV 11 (by decide)
                                  obtain ⟨va, vr, ho9⟩ := p11
                                  have h11 := ho9.e
                                  rw [h11] at ho9
                                  have p12 : (eqV (.int .i64 0)) (VV 12) W0 := hV 12 (by decide)
                                  have h12 : VV 12 = .int .i64 0 := p12
                                  have p13 : (newA WX.heap.size) (VV 13) W0 := hV 13 (by decide)
                                  obtain ⟨B6, h13, k6, hB6⟩ := p13
                                  simp [frV, dstOf, Act.put, h0, h1, h2, h3, h4, h5, h6, h7, h8, h9, h10, h11, h12, h13]
                                  clear h0 h1 h2 h3 h4 h5 h6 h7 h8 h9 h10 h11 h12 h13 hV g
                                  have GD : Hid (WX.grownBy W0 none) := gD
                                  clear gD
                                  have HO9 : Hid (AsgO W0 WX.heap.size (.agg #[va, vr, .int .i64 s2]) A2 [] s2 va vr) := ho9
                                  have HK6 : Hid (Bk W0 B6 31 [.slice none 0 0, .slice none 0 0, .int .i64 0]) := k6
                                  have z0 := k6.cell (i := 0) rfl
                                  have z1 := k6.cell (i := 1) rfl
                                  have z2 := k6.cell (i := 2) rfl
                                  have f0 := k6.frozen 0
                                  have f1 := k6.frozen 1
                                  have f2 := k6.frozen 2
                                  obtain ⟨aa, ac, hva, _⟩ := ho9.a.slice
                                  obtain ⟨ra, rc, hvr, _⟩ := ho9.r.slice
                                  generalize (A2).length = an at hva
                                  generalize ([]).length = rn at hvr
                                  subst hva hvr
                                  clear ho9 k6
                                  go_wp2_with fail
                                  go_meet
                                  exact cutA (Nat.le_refl _) HK6.out HO9.out GD.out hB6
                                · intro VV W0 g hV hold
                                  have gD : WX.grownBy W0 none := grown_trans (grown_drew (World.grownBy.refl _ none)) g
                                  have h0 : VV 0 = .pointer (some ⟨B1, 0, none⟩) := hV 0 (by decide) (by decide)
                                  have h1 : VV 1 = .slice ta tn tc := hV 1 (by decide) (by decide)
                                  have p2 : (tysV tn T) (VV 2) W0 := hV 2 (by decide) (by decide)
                                  obtain ⟨n2a, n2c, _, h2, _⟩ := p2
                                  have h3 : VV 3 = .pointer (some ⟨B1, 1, none⟩) := hV 3 (by decide) (by decide)
                                  have h4 : VV 4 = .slice (some ⟨lb, lo, none⟩) (m + 1) ic := hV 4 (by decide) (by decide)
                                  have h5 : VV 5 = .int .i64 ((m + 1 : Nat) : Int) := hV 5 (by decide) (by decide)
                                  have h6 : VV 6 = .int .i64 (m : Int) := hV 6 (by decide) (by decide)
                                  have h7 : VV 7 = .slice (some ⟨lb, lo, none⟩) m ic := hV 7 (by decide) (by decide)
                                  have p8 : (numV m I) (VV 8) W0 := hV 8 (by decide) (by decide)
                                  obtain ⟨n8a, n8c, _, h8, _⟩ := p8
                                  have p9 : (asgT WX.heap.size 0 A2 [] s2) (VV 9) W0 := hV 9 (by decide) (by decide)
                                  obtain ⟨y9, h9⟩ : ∃ y, VV 9 = y := ⟨_, rfl⟩
                                  clear p9
                                  have p10 : (asgT WX.heap.size 0 A2 [] s2) (VV 10) W0 := hV 10 (by decide) (by decide)
                                  obtain ⟨x8, a8, r8, h10, _⟩ := p10
                                  have p11 : (asgX WX.heap.size A2 [] s2) (VV 11) W0 := hV 11 (by decide) (by decide)
                                  obtain ⟨va, vr, ho9⟩ := p11
                                  have h11 := ho9.e
                                  rw [h11] at ho9
                                  obtain ⟨y12, h12⟩ : ∃ y, VV 12 = y := ⟨_, rfl⟩
                                  have p13 : (newA WX.heap.size) (VV 13) W0 := hV 13 (by decide) (by decide)
                                  obtain ⟨B6, h13, k6, hB6⟩ := p13
                                  simp [frV, dstOf, Act.put, h0, h1, h2, h3, h4, h5, h6, h7, h8, h9, h10, h11, h12, h13]
                                  clear h0 h1 h2 h3 h4 h5 h6 h7 h8 h9 h10 h11 h12 h13 hV g hold
                                  have GD : Hid (WX.grownBy W0 none) := gD
                                  clear gD
                                  have HO9 : Hid (AsgO W0 WX.heap.size (.agg #[va, vr, .int .i64 s2]) A2 [] s2 va vr) := ho9
                                  have HK6 : Hid (Bk W0 B6 31 [.slice none 0 0, .slice none 0 0, .int .i64 0]) := k6
                                  have z0 := k6.cell (i := 0) rfl
                                  have z1 := k6.cell (i := 1) rfl
                                  have z2 := k6.cell (i := 2) rfl
                                  have f0 := k6.frozen 0
                                  have f1 := k6.frozen 1
                                  have f2 := k6.frozen 2
                                  obtain ⟨aa, ac, hva, _⟩ := ho9.a.slice
                                  obtain ⟨ra, rc, hvr, _⟩ := ho9.r.slice
                                  generalize (A2).length = an at hva
                                  generalize ([]).length = rn at hvr
                                  subst hva hvr
                                  clear ho9 k6
                                  go_wp2_with fail
                                  go_meet
                                  exact cutA (Nat.le_refl _) HK6.out HO9.out GD.out hB6
                            case rest =>
                              obtain ⟨B8, vb, vs, rfl, rfl, k8, ho8, g8, hB8⟩ := hcut
                              obtain ⟨WY, hwc⟩ : ∃ x, x = wc := ⟨_, rfl⟩
                              rw [← hwc] at k8 ho8 g8 ⊢
                              clear hwc b0 b1 k1
                              have HG10 : Hid (WX.grownBy WY none) := g8
                              have k0 := (HK6.out.grow (grown_trans HG89.out (grown_trans HGx.out g8))).cell (i := 0) rfl
                              obtain ⟨ab, bc, hvb, hpb⟩ := ho8.a.pcIn
                              obtain ⟨sb, sc, hvs, _⟩ := ho8.r.slice
                              have hbl : A2.length ≤ A.length := HPre.out.length_le
                              have hbl2 : A2.length ≤ an := by have := HAn.out.1; omega
                              have HEP : Hid (∀ W, WY.grownBy W none → Calls Try.prog 17 #[.slice ab A2.length bc, .slice aa A2.length ac] W fun e w' => e = .returned (.bool true) ∧ W.grownBy w' none) := fun W g => eqPlaces_true (hpb.grow g) ((HPa.out.grow (grown_trans HG89.out (grown_trans HGx.out (grown_trans g8 g)))).cut hbl2) (fun i hi => by
                                obtain ⟨t9, ht9⟩ := HPre.out
                                rw [← ht9, List.getD_eq_getElem?_getD, List.getD_eq_getElem?_getD, List.getElem?_append_left hi]) (by omega)
                              have kb8 := k8.cell (i := 0) rfl
                              clear k8
                              have hac := HPa.out.le
                              subst hvb hvs
                              generalize A2.length = bn at *
                              have hbn1 : bn ≤ ac := by omega
                              have hbn2 : (bn : Int) ≤ ac := by omega
                              clear ho8 g8 hpb hB8 HPb HCj HCt HCt2
                              rcases HNa.out with ⟨rfl, rfl⟩ | ⟨TA, rfl⟩
                              · obtain rfl : an = 0 := by omega
                                obtain rfl : bn = 0 := by omega
                                go_wp2_with fail
                                as_aux_lemma =>
                                  refine region_gd (fun w w' => w.grownBy w' none) (fun h1 h2 => grown_trans h1 h2) (fun w => World.grownBy.refl _ _) 14 (psiL [eqV (.int .i64 0), eqV (.int .i64 0), eqV (.bool false), eqV (.bool false), eqV (.pointer (some ⟨B8, 0, none⟩)), eqV (.slice ab 0 bc), eqV (.pointer (some ⟨B6, 0, none⟩)), eqV (.slice none 0 0), eqV (.pointer (some ⟨B8, 0, none⟩)), eqV (.slice ab 0 bc), eqV (.int .i64 (0 : Int)), eqV (.slice none 0 0), eqV (.bool true), eqV (.bool false)]) (by kernel_rfl) (by kernel_rfl) (by kernel_rfl) (by kernel_rfl) (psiL_hst (by repeat (first | exact stab_nil | refine stab_cons ?_ ?_ | exact stab_eq _))) ?_ ?_
                                  · simp only [List.take_succ_cons, List.take_zero]
                                    refine ⟨?_, ?_, ?_, ?_, ?_, ?_, ?_, ?_, ?_, ?_, ?_, ?_, ?_, ?_, trivial⟩
                                    · intro VV W0 AA g hV hs hz
                                      refine outG_yes (by simp [wantedV]) ?_
                                      have e014 := hz 14 (.int .i64 0) (by kernel_rfl) rfl
                                      clear hV hs hz
                                      refine outR_val (by kernel_rfl) (v := .int .i64 0) (w' := W0) ?_ (World.grownBy.refl _ _) rfl
                                      simp [go_sem, e014]
                                    · intro VV W0 AA g hV hs hz
                                      refine outG_yes (by simp [wantedV]) ?_
                                      have gD : WY.grownBy W0 none := grown_trans (grown_drew (World.grownBy.refl _ none)) g
                                      have q0 : VV 0 = .int .i64 0 := hV 0 (by kernel_rfl)
                                      have e0 := hs 181 0 (by kernel_rfl) (by kernel_rfl)
                                      clear hV hs hz
                                      refine outR_call (by kernel_rfl) (f := 10) ?_ ((HN.out 0 W0).mono fun e w2 ⟨he, hw⟩ => ⟨_, he, by rw [hw]; exact World.grownBy.refl _ _, rfl⟩)
                                      simp [go_sem, q0, e0]
                                    · intro VV W0 AA g hV hs hz
                                      refine outG_yes (by simp [wantedV]) ?_
                                      have q1 : VV 1 = .int .i64 0 := hV 1 (by kernel_rfl)
                                      have e1 := hs 182 1 (by kernel_rfl) (by kernel_rfl)
                                      clear hV hs hz
                                      refine outR_val (by kernel_rfl) (v := .bool false) (w' := W0) ?_ (World.grownBy.refl _ _) rfl
                                      simp [go_sem, q1, e1]
                                    · intro VV W0 AA g hV hs hz
                                      refine outG_yes (by simp [wantedV]) ?_
                                      have q2 : VV 2 = .bool false := hV 2 (by kernel_rfl)
                                      have e2 := hs 183 2 (by kernel_rfl) (by kernel_rfl)
                                      clear hV hs hz
                                      refine outR_val (by kernel_rfl) (v := .bool false) (w' := W0) ?_ (World.grownBy.refl _ _) rfl
                                      simp [go_sem, q2, e2]
                                    · intro VV W0 AA g hV hs hz
                                      have qg : VV 3 = .bool false := hV 3 (by kernel_rfl)
                                      refine outG_yes (by simp [wantedV, boolOf, qg]) ?_
                                      have e013 := hz 13 (.pointer (some ⟨B8, 0, none⟩)) (by kernel_rfl) rfl
                                      clear hV hs hz qg
                                      refine outR_val (by kernel_rfl) (v := .pointer (some ⟨B8, 0, none⟩)) (w' := W0) ?_ (World.grownBy.refl _ _) rfl
                                      simp [go_sem, e013]
                                    · intro VV W0 AA g hV hs hz
                                      have qg : VV 3 = .bool false := hV 3 (by kernel_rfl)
                                      refine outG_yes (by simp [wantedV, boolOf, qg]) ?_
                                      have gD : WY.grownBy W0 none := grown_trans (grown_drew (World.grownBy.refl _ none)) g
                                      have q4 : VV 4 = .pointer (some ⟨B8, 0, none⟩) := hV 4 (by kernel_rfl)
                                      have e4 := hs 185 4 (by kernel_rfl) (by kernel_rfl)
                                      have x0 := (gD.cell kb8 (by simp))
                                      clear hV hs hz qg
                                      refine outR_val (by kernel_rfl) (v := .slice ab 0 bc) (w' := W0) ?_ (World.grownBy.refl _ _) rfl
                                      simp [go_sem, q4, e4, x0]
                                    · intro VV W0 AA g hV hs hz
                                      have qg : VV 3 = .bool false := hV 3 (by kernel_rfl)
                                      refine outG_yes (by simp [wantedV, boolOf, qg]) ?_
                                      have e05 := hz 5 (.pointer (some ⟨B6, 0, none⟩)) (by kernel_rfl) rfl
                                      clear hV hs hz qg
                                      refine outR_val (by kernel_rfl) (v := .pointer (some ⟨B6, 0, none⟩)) (w' := W0) ?_ (World.grownBy.refl _ _) rfl
                                      simp [go_sem, e05]
                                    · intro VV W0 AA g hV hs hz
                                      have qg : VV 3 = .bool false := hV 3 (by kernel_rfl)
                                      refine outG_yes (by simp [wantedV, boolOf, qg]) ?_
                                      have gD : WY.grownBy W0 none := grown_trans (grown_drew (World.grownBy.refl _ none)) g
                                      have q6 : VV 6 = .pointer (some ⟨B6, 0, none⟩) := hV 6 (by kernel_rfl)
                                      have e6 := hs 187 6 (by kernel_rfl) (by kernel_rfl)
                                      have x0 := (gD.cell k0 (by simp))
                                      clear hV hs hz qg
                                      refine outR_val (by kernel_rfl) (v := .slice none 0 0) (w' := W0) ?_ (World.grownBy.refl _ _) rfl
                                      simp [go_sem, q6, e6, x0]
                                    · intro VV W0 AA g hV hs hz
                                      have qg : VV 3 = .bool false := hV 3 (by kernel_rfl)
                                      refine outG_yes (by simp [wantedV, boolOf, qg]) ?_
                                      have e013 := hz 13 (.pointer (some ⟨B8, 0, none⟩)) (by kernel_rfl) rfl
                                      clear hV hs hz qg
                                      refine outR_val (by kernel_rfl) (v := .pointer (some ⟨B8, 0, none⟩)) (w' := W0) ?_ (World.grownBy.refl _ _) rfl
                                      simp [go_sem, e013]
                                    · intro VV W0 AA g hV hs hz
                                      have qg : VV 3 = .bool false := hV 3 (by kernel_rfl)
                                      refine outG_yes (by simp [wantedV, boolOf, qg]) ?_
                                      have gD : WY.grownBy W0 none := grown_trans (grown_drew (World.grownBy.refl _ none)) g
                                      have q8 : VV 8 = .pointer (some ⟨B8, 0, none⟩) := hV 8 (by kernel_rfl)
                                      have e8 := hs 189 8 (by kernel_rfl) (by kernel_rfl)
                                      have x0 := (gD.cell kb8 (by simp))
                                      clear hV hs hz qg
                                      refine outR_val (by kernel_rfl) (v := .slice ab 0 bc) (w' := W0) ?_ (World.grownBy.refl _ _) rfl
                                      simp [go_sem, q8, e8, x0]
                                    · intro VV W0 AA g hV hs hz
                                      have qg : VV 3 = .bool false := hV 3 (by kernel_rfl)
                                      refine outG_yes (by simp [wantedV, boolOf, qg]) ?_
                                      have q9 : VV 9 = .slice ab 0 bc := hV 9 (by kernel_rfl)
                                      have e9 := hs 190 9 (by kernel_rfl) (by kernel_rfl)
                                      clear hV hs hz qg
                                      refine outR_val (by kernel_rfl) (v := .int .i64 (0 : Int)) (w' := W0) ?_ (World.grownBy.refl _ _) rfl
                                      simp [go_sem, q9, e9]
                                    · intro VV W0 AA g hV hs hz
                                      have qg : VV 3 = .bool false := hV 3 (by kernel_rfl)
                                      refine outG_yes (by simp [wantedV, boolOf, qg]) ?_
                                      have q7 : VV 7 = .slice none 0 0 := hV 7 (by kernel_rfl)
                                      have e7 := hs 188 7 (by kernel_rfl) (by kernel_rfl)
                                      have q10 : VV 10 = .int .i64 (0 : Int) := hV 10 (by kernel_rfl)
                                      have e10 := hs 191 10 (by kernel_rfl) (by kernel_rfl)
                                      clear hV hs hz qg
                                      refine outR_val (by kernel_rfl) (v := .slice none 0 0) (w' := W0) ?_ (World.grownBy.refl _ _) rfl
                                      simp [go_sem, q7, e7, q10, e10]
                                    · intro VV W0 AA g hV hs hz
                                      have qg : VV 3 = .bool false := hV 3 (by kernel_rfl)
                                      refine outG_yes (by simp [wantedV, boolOf, qg]) ?_
                                      have gD : WY.grownBy W0 none := grown_trans (grown_drew (World.grownBy.refl _ none)) g
                                      have q5 : VV 5 = .slice ab 0 bc := hV 5 (by kernel_rfl)
                                      have e5 := hs 186 5 (by kernel_rfl) (by kernel_rfl)
                                      have q11 : VV 11 = .slice none 0 0 := hV 11 (by kernel_rfl)
                                      have e11 := hs 192 11 (by kernel_rfl) (by kernel_rfl)
                                      clear hV hs hz qg
                                      refine outR_call (by kernel_rfl) (f := 17) ?_ ((HEP.out W0 gD).mono fun e w2 ⟨he, hg⟩ => ⟨_, he, hg, rfl⟩)
                                      simp [go_sem, q5, e5, q11, e11]
                                    · intro VV W0 AA g hV hs hz
                                      have qg : VV 3 = .bool false := hV 3 (by kernel_rfl)
                                      refine outG_yes (by simp [wantedV, boolOf, qg]) ?_
                                      have q12 : VV 12 = .bool true := hV 12 (by kernel_rfl)
                                      have e12 := hs 193 12 (by kernel_rfl) (by kernel_rfl)
                                      clear hV hs hz qg
                                      refine outR_val (by kernel_rfl) (v := .bool false) (w' := W0) ?_ (World.grownBy.refl _ _) rfl
                                      simp [go_sem, q12, e12]
                                  · intro VV W0 g hV
                                    have gD : WY.grownBy W0 none := grown_trans (grown_drew (World.grownBy.refl _ none)) g
                                    have h0 : VV 0 = .int .i64 0 := hV 0 (by decide)
                                    have h1 : VV 1 = .int .i64 0 := hV 1 (by decide)
                                    have h2 : VV 2 = .bool false := hV 2 (by decide)
                                    have h3 : VV 3 = .bool false := hV 3 (by decide)
                                    have h4 : VV 4 = .pointer (some ⟨B8, 0, none⟩) := hV 4 (by decide)
                                    have h5 : VV 5 = .slice ab 0 bc := hV 5 (by decide)
                                    have h6 : VV 6 = .pointer (some ⟨B6, 0, none⟩) := hV 6 (by decide)
                                    have h7 : VV 7 = .slice none 0 0 := hV 7 (by decide)
                                    have h8 : VV 8 = .pointer (some ⟨B8, 0, none⟩) := hV 8 (by decide)
                                    have h9 : VV 9 = .slice ab 0 bc := hV 9 (by decide)
                                    have h10 : VV 10 = .int .i64 (0 : Int) := hV 10 (by decide)
                                    have h11 : VV 11 = .slice none 0 0 := hV 11 (by decide)
                                    have h12 : VV 12 = .bool true := hV 12 (by decide)
                                    have h13 : VV 13 = .bool false := hV 13 (by decide)
                                    simp [frV, dstOf, Act.put, h0, h1, h2, h3, h4, h5, h6, h7, h8, h9, h10, h11, h12, h13]
                                    clear h0 h1 h2 h3 h4 h5 h6 h7 h8 h9 h10 h11 h12 h13 hV g
                                    have GR : Hid (WY.grownBy W0 none) := gD
                                    clear gD
                                    go_wp2_with fail
                                    refine ⟨⟨k + 1, by go_num, by omega, ?_⟩, by simp [intOf]; omega⟩
                                    exact grown_trans HG1.out (grown_trans HG9.out (grown_trans HGx.out (grown_trans HG10.out GR.out)))
                              · go_wp2_with fail
                                as_aux_lemma =>
                                  refine region_gd (fun w w' => w.grownBy w' none) (fun h1 h2 => grown_trans h1 h2) (fun w => World.grownBy.refl _ _) 14 (psiL [eqV (.int .i64 0), eqV (.int .i64 0), eqV (.bool false), eqV (.bool false), eqV (.pointer (some ⟨B8, 0, none⟩)), eqV (.slice ab bn bc), eqV (.pointer (some ⟨B6, 0, none⟩)), eqV (.slice (some ⟨TA, 0, none⟩) an ac), eqV (.pointer (some ⟨B8, 0, none⟩)), eqV (.slice ab bn bc), eqV (.int .i64 (bn : Int)), eqV (.slice (some ⟨TA, 0, none⟩) bn ac), eqV (.bool true), eqV (.bool false)]) (by kernel_rfl) (by kernel_rfl) (by kernel_rfl) (by kernel_rfl) (psiL_hst (by repeat (first | exact stab_nil | refine stab_cons ?_ ?_ | exact stab_eq _))) ?_ ?_
                                  · simp only [List.take_succ_cons, List.take_zero]
                                    refine ⟨?_, ?_, ?_, ?_, ?_, ?_, ?_, ?_, ?_, ?_, ?_, ?_, ?_, ?_, trivial⟩
                                    · intro VV W0 AA g hV hs hz
                                      refine outG_yes (by simp [wantedV]) ?_
                                      have e014 := hz 14 (.int .i64 0) (by kernel_rfl) rfl
                                      clear hV hs hz
                                      refine outR_val (by kernel_rfl) (v := .int .i64 0) (w' := W0) ?_ (World.grownBy.refl _ _) rfl
                                      simp [go_sem, e014]
                                    · intro VV W0 AA g hV hs hz
                                      refine outG_yes (by simp [wantedV]) ?_
                                      have gD : WY.grownBy W0 none := grown_trans (grown_drew (World.grownBy.refl _ none)) g
                                      have q0 : VV 0 = .int .i64 0 := hV 0 (by kernel_rfl)
                                      have e0 := hs 181 0 (by kernel_rfl) (by kernel_rfl)
                                      clear hV hs hz
                                      refine outR_call (by kernel_rfl) (f := 10) ?_ ((HN.out 0 W0).mono fun e w2 ⟨he, hw⟩ => ⟨_, he, by rw [hw]; exact World.grownBy.refl _ _, rfl⟩)
                                      simp [go_sem, q0, e0]
                                    · intro VV W0 AA g hV hs hz
                                      refine outG_yes (by simp [wantedV]) ?_
                                      have q1 : VV 1 = .int .i64 0 := hV 1 (by kernel_rfl)
                                      have e1 := hs 182 1 (by kernel_rfl) (by kernel_rfl)
                                      clear hV hs hz
                                      refine outR_val (by kernel_rfl) (v := .bool false) (w' := W0) ?_ (World.grownBy.refl _ _) rfl
                                      simp [go_sem, q1, e1]
                                    · intro VV W0 AA g hV hs hz
                                      refine outG_yes (by simp [wantedV]) ?_
                                      have q2 : VV 2 = .bool false := hV 2 (by kernel_rfl)
                                      have e2 := hs 183 2 (by kernel_rfl) (by kernel_rfl)
                                      clear hV hs hz
                                      refine outR_val (by kernel_rfl) (v := .bool false) (w' := W0) ?_ (World.grownBy.refl _ _) rfl
                                      simp [go_sem, q2, e2]
                                    · intro VV W0 AA g hV hs hz
                                      have qg : VV 3 = .bool false := hV 3 (by kernel_rfl)
                                      refine outG_yes (by simp [wantedV, boolOf, qg]) ?_
                                      have e013 := hz 13 (.pointer (some ⟨B8, 0, none⟩)) (by kernel_rfl) rfl
                                      clear hV hs hz qg
                                      refine outR_val (by kernel_rfl) (v := .pointer (some ⟨B8, 0, none⟩)) (w' := W0) ?_ (World.grownBy.refl _ _) rfl
                                      simp [go_sem, e013]
                                    · intro VV W0 AA g hV hs hz
                                      have qg : VV 3 = .bool false := hV 3 (by kernel_rfl)
                                      refine outG_yes (by simp [wantedV, boolOf, qg]) ?_
                                      have gD : WY.grownBy W0 none := grown_trans (grown_drew (World.grownBy.refl _ none)) g
                                      have q4 : VV 4 = .pointer (some ⟨B8, 0, none⟩) := hV 4 (by kernel_rfl)
                                      have e4 := hs 185 4 (by kernel_rfl) (by kernel_rfl)
                                      have x0 := (gD.cell kb8 (by simp))
                                      clear hV hs hz qg
                                      refine outR_val (by kernel_rfl) (v := .slice ab bn bc) (w' := W0) ?_ (World.grownBy.refl _ _) rfl
                                      simp [go_sem, q4, e4, x0]
                                    · intro VV W0 AA g hV hs hz
                                      have qg : VV 3 = .bool false := hV 3 (by kernel_rfl)
                                      refine outG_yes (by simp [wantedV, boolOf, qg]) ?_
                                      have e05 := hz 5 (.pointer (some ⟨B6, 0, none⟩)) (by kernel_rfl) rfl
                                      clear hV hs hz qg
                                      refine outR_val (by kernel_rfl) (v := .pointer (some ⟨B6, 0, none⟩)) (w' := W0) ?_ (World.grownBy.refl _ _) rfl
                                      simp [go_sem, e05]
                                    · intro VV W0 AA g hV hs hz
                                      have qg : VV 3 = .bool false := hV 3 (by kernel_rfl)
                                      refine outG_yes (by simp [wantedV, boolOf, qg]) ?_
                                      have gD : WY.grownBy W0 none := grown_trans (grown_drew (World.grownBy.refl _ none)) g
                                      have q6 : VV 6 = .pointer (some ⟨B6, 0, none⟩) := hV 6 (by kernel_rfl)
                                      have e6 := hs 187 6 (by kernel_rfl) (by kernel_rfl)
                                      have x0 := (gD.cell k0 (by simp))
                                      clear hV hs hz qg
                                      refine outR_val (by kernel_rfl) (v := .slice (some ⟨TA, 0, none⟩) an ac) (w' := W0) ?_ (World.grownBy.refl _ _) rfl
                                      simp [go_sem, q6, e6, x0]
                                    · intro VV W0 AA g hV hs hz
                                      have qg : VV 3 = .bool false := hV 3 (by kernel_rfl)
                                      refine outG_yes (by simp [wantedV, boolOf, qg]) ?_
                                      have e013 := hz 13 (.pointer (some ⟨B8, 0, none⟩)) (by kernel_rfl) rfl
                                      clear hV hs hz qg
                                      refine outR_val (by kernel_rfl) (v := .pointer (some ⟨B8, 0, none⟩)) (w' := W0) ?_ (World.grownBy.refl _ _) rfl
                                      simp [go_sem, e013]
                                    · intro VV W0 AA g hV hs hz
                                      have qg : VV 3 = .bool false := hV 3 (by kernel_rfl)
                                      refine outG_yes (by simp [wantedV, boolOf, qg]) ?_
                                      have gD : WY.grownBy W0 none := grown_trans (grown_drew (World.grownBy.refl _ none)) g
                                      have q8 : VV 8 = .pointer (some ⟨B8, 0, none⟩) := hV 8 (by kernel_rfl)
                                      have e8 := hs 189 8 (by kernel_rfl) (by kernel_rfl)
                                      have x0 := (gD.cell kb8 (by simp))
                                      clear hV hs hz qg
                                      refine outR_val (by kernel_rfl) (v := .slice ab bn bc) (w' := W0) ?_ (World.grownBy.refl _ _) rfl
                                      simp [go_sem, q8, e8, x0]
                                    · intro VV W0 AA g hV hs hz
                                      have qg : VV 3 = .bool false := hV 3 (by kernel_rfl)
                                      refine outG_yes (by simp [wantedV, boolOf, qg]) ?_
                                      have q9 : VV 9 = .slice ab bn bc := hV 9 (by kernel_rfl)
                                      have e9 := hs 190 9 (by kernel_rfl) (by kernel_rfl)
                                      clear hV hs hz qg
                                      refine outR_val (by kernel_rfl) (v := .int .i64 (bn : Int)) (w' := W0) ?_ (World.grownBy.refl _ _) rfl
                                      simp [go_sem, q9, e9]
                                    · intro VV W0 AA g hV hs hz
                                      have qg : VV 3 = .bool false := hV 3 (by kernel_rfl)
                                      refine outG_yes (by simp [wantedV, boolOf, qg]) ?_
                                      have q7 : VV 7 = .slice (some ⟨TA, 0, none⟩) an ac := hV 7 (by kernel_rfl)
                                      have e7 := hs 188 7 (by kernel_rfl) (by kernel_rfl)
                                      have q10 : VV 10 = .int .i64 (bn : Int) := hV 10 (by kernel_rfl)
                                      have e10 := hs 191 10 (by kernel_rfl) (by kernel_rfl)
                                      clear hV hs hz qg
                                      refine outR_val (by kernel_rfl) (v := .slice (some ⟨TA, 0, none⟩) bn ac) (w' := W0) ?_ (World.grownBy.refl _ _) rfl
                                      simp [go_sem, q7, e7, q10, e10, hbn2]
                                    · intro VV W0 AA g hV hs hz
                                      have qg : VV 3 = .bool false := hV 3 (by kernel_rfl)
                                      refine outG_yes (by simp [wantedV, boolOf, qg]) ?_
                                      have gD : WY.grownBy W0 none := grown_trans (grown_drew (World.grownBy.refl _ none)) g
                                      have q5 : VV 5 = .slice ab bn bc := hV 5 (by kernel_rfl)
                                      have e5 := hs 186 5 (by kernel_rfl) (by kernel_rfl)
                                      have q11 : VV 11 = .slice (some ⟨TA, 0, none⟩) bn ac := hV 11 (by kernel_rfl)
                                      have e11 := hs 192 11 (by kernel_rfl) (by kernel_rfl)
                                      clear hV hs hz qg
                                      refine outR_call (by kernel_rfl) (f := 17) ?_ ((HEP.out W0 gD).mono fun e w2 ⟨he, hg⟩ => ⟨_, he, hg, rfl⟩)
                                      simp [go_sem, q5, e5, q11, e11]
                                    · intro VV W0 AA g hV hs hz
                                      have qg : VV 3 = .bool false := hV 3 (by kernel_rfl)
                                      refine outG_yes (by simp [wantedV, boolOf, qg]) ?_
                                      have q12 : VV 12 = .bool true := hV 12 (by kernel_rfl)
                                      have e12 := hs 193 12 (by kernel_rfl) (by kernel_rfl)
                                      clear hV hs hz qg
                                      refine outR_val (by kernel_rfl) (v := .bool false) (w' := W0) ?_ (World.grownBy.refl _ _) rfl
                                      simp [go_sem, q12, e12]
                                  · intro VV W0 g hV
                                    have gD : WY.grownBy W0 none := grown_trans (grown_drew (World.grownBy.refl _ none)) g
                                    have h0 : VV 0 = .int .i64 0 := hV 0 (by decide)
                                    have h1 : VV 1 = .int .i64 0 := hV 1 (by decide)
                                    have h2 : VV 2 = .bool false := hV 2 (by decide)
                                    have h3 : VV 3 = .bool false := hV 3 (by decide)
                                    have h4 : VV 4 = .pointer (some ⟨B8, 0, none⟩) := hV 4 (by decide)
                                    have h5 : VV 5 = .slice ab bn bc := hV 5 (by decide)
                                    have h6 : VV 6 = .pointer (some ⟨B6, 0, none⟩) := hV 6 (by decide)
                                    have h7 : VV 7 = .slice (some ⟨TA, 0, none⟩) an ac := hV 7 (by decide)
                                    have h8 : VV 8 = .pointer (some ⟨B8, 0, none⟩) := hV 8 (by decide)
                                    have h9 : VV 9 = .slice ab bn bc := hV 9 (by decide)
                                    have h10 : VV 10 = .int .i64 (bn : Int) := hV 10 (by decide)
                                    have h11 : VV 11 = .slice (some ⟨TA, 0, none⟩) bn ac := hV 11 (by decide)
                                    have h12 : VV 12 = .bool true := hV 12 (by decide)
                                    have h13 : VV 13 = .bool false := hV 13 (by decide)
                                    simp [frV, dstOf, Act.put, h0, h1, h2, h3, h4, h5, h6, h7, h8, h9, h10, h11, h12, h13]
                                    clear h0 h1 h2 h3 h4 h5 h6 h7 h8 h9 h10 h11 h12 h13 hV g
                                    have GR : Hid (WY.grownBy W0 none) := gD
                                    clear gD
                                    go_wp2_with fail
                                    refine ⟨⟨k + 1, by go_num, by omega, ?_⟩, by simp [intOf]; omega⟩
                                    exact grown_trans HG1.out (grown_trans HG9.out (grown_trans HGx.out (grown_trans HG10.out GR.out)))
              · have hE1 : (E != 0) = true := by simpa using hE0
                go_wp2_with (first
                  | (go_at_call 9; refine HRg.out.mono ?_; clear HRg; rintro e w7 ⟨aa', an', ac', ra', rn', rc', rfl, hg7⟩; have HG7 : Hid (W6.grownBy w7 none) := hg7; clear hg7 b0 b1 b2)
                  | (go_at_call 10; refine (HN.out _ _).mono ?_; rintro e w8 ⟨rfl, hw8⟩; rw [hw8]; clear hw8 w8))
                refine ⟨⟨k + 1, by go_num, by omega, ?_⟩, by simp [intOf]; omega⟩
                exact grown_trans HG1.out (grown_trans HG6.out (grown_trans HG7.out (World.grownBy_alloc _ _ _)))
        · rcases (show (100 : Int) < im ∨ ((im : Int) ≤ 100 ∧ (100 : Int) < fm) by omega) with hi' | ⟨hi', hf'⟩
          all_goals
            go_wp2_with (go_at_call 5; rw [HW1.out.1, HW1.out.2]; refine HH2.out.mono ?_; rintro e w3 ⟨⟨bv, rfl, hbv⟩, hw3⟩; rw [hw3]; clear hw3 w3 hbv)
          all_goals
            go_ret
            exact ⟨rfl, grown_below HG1.out⟩
      · clear hg
        rcases (show (k : Int) < len ∧ ¬ (k : Int) < 15 ∨ ¬ (k : Int) < len by omega) with ⟨h1, h2⟩ | h1
        all_goals
          go_wp2_with (go_at_call 14; refine (HW.out _).mono ?_; rintro r w1 ⟨rfl, g1⟩)
          go_ret
          exact ⟨rfl, grown_below (grown_trans HG.out g1)⟩
end Go.Proofs.Ytdfjaedafampaaa
