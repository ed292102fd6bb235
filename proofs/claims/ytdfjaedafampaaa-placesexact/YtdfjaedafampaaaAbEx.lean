/- PlacesExact: the walk. -/
import Derived.Test.YtdfjaedafampaaaG11
namespace Go.Proofs.Ytdfjaedafampaaa
open Go.RowKit
set_option linter.unusedVariables false

theorem Ab.l_len (T : Nat → Ty.TyV) (n : Nat) (L : Nat → Int) (m : Nat) (R : Nat → Int) (r : Nat) : (Ab.lA T n L m R r).length ≤ 1000 ∧ (Ab.lR T n L m R r).length ≤ 1000 := by
  by_cases h : Ab.err T n L m R r = 0
  · obtain ⟨hc, h1, h2⟩ := Ab.err_zero h
    have a1 := (Ab.go_b (s0 := 0) (Ab.kw_le hc h1)).2.2.2
    have a2 := (Ab.go_b (s0 := (Ab.gA T L m).s) (Ab.kw_le hc h2)).2.2.2
    have b1 := (Ab.ok_iff.1 h1).1
    have b2 := (Ab.ok_iff.1 h2).1
    unfold Ab.lA Ab.lR Ab.gA Ab.gR
    rw [if_pos h, if_pos h]
    exact ⟨by omega, by unfold Ab.gA at a2 ⊢; omega⟩
  · unfold Ab.lA Ab.lR
    rw [if_neg h, if_neg h]
    exact ⟨by simp, by simp⟩
/-- numbers that lie somewhere -/
def numV (n : Nat) (I : Nat → Int) : Value → World → Prop := fun v w => ∃ a c N, v = .slice a n c ∧ NumIn N w a n c I
theorem stab_num (n : Nat) (I : Nat → Int) : StabV (numV n I) := fun _ _ _ ⟨a, c, N, e, h⟩ g => ⟨a, c, N, e, h.grow g⟩
/-- what Places tells, with its error -/
def asgT (base : Nat) (E : Int) (A R : List Ab.Pc) (s : Int) : Value → World → Prop := fun v w => ∃ x va vr, v = .tuple #[x, .int .i64 E] ∧ AsgO w base x A R s va vr
theorem stab_asgT (base : Nat) (E : Int) (A R : List Ab.Pc) (s : Int) : StabV (asgT base E A R s) := fun _ _ _ ⟨x, a, r, e, h⟩ g => ⟨x, a, r, e, h.grow g⟩
def asgX (base : Nat) (A R : List Ab.Pc) (s : Int) : Value → World → Prop := fun v w => ∃ va vr, AsgO w base v A R s va vr
theorem stab_asgX (base : Nat) (A R : List Ab.Pc) (s : Int) : StabV (asgX base A R s) := fun _ _ _ ⟨a, r, h⟩ g => ⟨a, r, h.grow g⟩
/-- a new Assign -/
def newA (base : Nat) : Value → World → Prop := fun v w => ∃ B, v = .pointer (some ⟨B, 0, none⟩) ∧ Bk w B 31 [.slice none 0 0, .slice none 0 0, .int .i64 0] ∧ base ≤ B
theorem stab_newA (base : Nat) : StabV (newA base) := fun _ _ _ ⟨B, e, h, hb⟩ g => ⟨B, e, h.grow g, hb⟩
/-- behind 'a, e := abi.Places(..)' -/
def CutA (base : Nat) (E : Int) (A R : List Ab.Pc) (s : Int) (W1 : World) (p e : Value) (wx : World) : Prop :=
  ∃ B va vr, p = .pointer (some ⟨B, 0, none⟩) ∧ e = .int .i64 E ∧ Bk wx B 31 [va, vr, .int .i64 s] ∧ AsgO wx base (.agg #[va, vr, .int .i64 s]) A R s va vr ∧ W1.grownBy wx none ∧ base ≤ B
theorem cutA {base B : Nat} {E : Int} {A R : List Ab.Pc} {s : Int} {W1 W0 : World} {va vr : Value} (hb : W1.heap.size ≤ base) (k : Bk W0 B 31 [.slice none 0 0, .slice none 0 0, .int .i64 0]) (h : AsgO W0 base (.agg #[va, vr, .int .i64 s]) A R s va vr) (g : W1.grownBy W0 none) (hB : base ≤ B) :
    CutA base E A R s W1 (.pointer (some ⟨B, 0, none⟩)) (.int .i64 E) (put3 W0 B va vr (.int .i64 s)) :=
  ⟨B, va, vr, rfl, rfl, k.put3 _ _ _, h.ch k (ch_put3 _ _ _ _ _), ((Ch.of (l := [B]) g).trans (ch_put3 _ _ _ _ _)).nil (fun q hq => by simp at hq; omega), hB⟩
set_option maxRecDepth 100000 in
set_option maxHeartbeats 16000000 in
theorem placesExact_walk (a : Option Addr) (len cap : Nat) (V : Nat → TbV) (w : World) (hl : RowB 3 72 PaAt w a len cap V) :
    Calls Try.prog 3 #[.slice a len cap] w fun e w' => e = .returned (.bool true) ∧ Below w.heap.size w w' := by
  have HW : Hid (∀ W, Calls Try.prog 14 #[] W fun r w' => r = .returned (.bool true) ∧ W.grownBy w' none) := wakes11_any
  have HN : Hid (∀ x W, Calls Try.prog 10 #[.int .i64 x] W fun e w' => e = .returned (.int .i64 x) ∧ w' = W) := num11_any
  have hfit : len * 72 ≤ 140737488351232 := hl.fits
  have hfit' : (len : Int) ≤ 140737488351232 := by omega
  rcases hl.bs with h0 | ⟨b, off, rfl, hlt, hV⟩
  · subst h0
    go_enter Try.func3, Try.ntmps3
    go_wp2_with fail
    refine wp_loop_once ?_
    go_wp2_with (go_at_call 14; refine (HW.out _).mono ?_; rintro r w1 ⟨rfl, g1⟩)
    go_ret
    exact ⟨rfl, grown_below g1⟩
  · have HV : Hid (∀ i, i < len → PaAt w b (off + i * 3) (V i)) := hV
    have hle := hl.le
    clear hV hl
    go_enter Try.func3, Try.ntmps3
    go_wp2_with fail
    go_loopw [3] (fun ix wr => ∃ k : Nat, ix = .int .i64 k ∧ k ≤ len ∧ w.grownBy wr none) (fun ix _ => len - (intOf ix).toNat)
    case atStart => exact ⟨0, rfl, Nat.zero_le _, World.grownBy.refl _ _⟩
    case round =>
      obtain ⟨k, rfl, hk, hg⟩ := hrel
      obtain ⟨wo, hwo⟩ : ∃ wo, wo = wr := ⟨_, rfl⟩
      rw [← hwo] at hg ⊢
      clear hwo
      have HG : Hid (w.grownBy wo none) := hg
      by_cases hkl : k < len ∧ k < 15
      · obtain ⟨hkl, hk15⟩ := hkl
        have hkl' : (k : Int) < len := by omega
        have hk15' : (k : Int) < 15 := by omega
        have hPa := HV.out k hkl
        have htf := hPa.tb.tf
        have htz := hPa.tb.tz
        have hiz := hPa.iz
        have hfz := hPa.fz
        have hsz := hg.size
        generalize V k = v at hPa htf htz hiz hfz
        obtain ⟨ta, tn, tc, T, ia, im, ic, I, fa, fm, fc, F⟩ := v
        simp only at hPa htf htz hiz hfz
        obtain ⟨t0, t1, t2, tT, tI, tF⟩ := hPa.tb.grow hg
        simp only at t0 t1 t2 tT tI tF
        obtain ⟨W1, hW1⟩ : ∃ W1, W1 = wo.alloc (.cells #[.slice ta tn tc, .slice ia im ic, .slice fa fm fc] 26) := ⟨_, rfl⟩
        obtain ⟨B1, hB1⟩ : ∃ B1, B1 = wo.heap.size := ⟨_, rfl⟩
        have g1 : wo.grownBy W1 none := by rw [hW1]; exact World.grownBy_alloc _ _ _
        have k1 : Bk W1 B1 26 [.slice ta tn tc, .slice ia im ic, .slice fa fm fc] := by rw [hW1, hB1]; exact Bk.new _ _ _
        have HT : Hid (∀ W, W1.grownBy W none → TysIn w.heap.size W ta tn tc T) := fun W g => tT.grow (grown_trans g1 g)
        have HI : Hid (∀ W, W1.grownBy W none → NumIn w.heap.size W ia im ic I) := fun W g => tI.grow (grown_trans g1 g)
        have HF : Hid (∀ W, W1.grownBy W none → NumIn w.heap.size W fa fm fc F) := fun W g => tF.grow (grown_trans g1 g)
        have HTf : Hid (∀ i, i < tn → (T i).nf * 8 ≤ reachBytes) := htf
        have HH := heavy7_any (HT.out W1 (World.grownBy.refl _ _)) htz htf
        have HK1 : Hid (Bk W1 B1 26 [.slice ta tn tc, .slice ia im ic, .slice fa fm fc]) := k1
        have HG1 : Hid (w.grownBy W1 none) := grown_trans HG.out g1
        have HW1 : Hid (wo.alloc (.cells #[.slice ta tn tc, .slice ia im ic, .slice fa fm fc] 26) = W1 ∧ wo.heap.size = B1) := ⟨hW1.symm, hB1.symm⟩
        have HH2 : Hid (Calls Try.prog 5 #[.slice ta tn tc] W1 fun e w' => HvR tn e ∧ w' = W1) := HH
        have HZi : Hid (ia = none → im = 0 ∧ ic = 0) := hiz
        have HZf : Hid (fa = none → fm = 0 ∧ fc = 0) := hfz
        have b0 := k1.cell (i := 0) rfl
        have b1 := k1.cell (i := 1) rfl
        have b2 := k1.cell (i := 2) rfl
        have hile := tI.le
        have hfle := tF.le
        have himx := tI.max
        have hfmx := tF.max
        unfold maxLen at himx hfmx
        clear tT tI tF htf hPa HH hW1 g1 k1 hg hiz hfz hB1
        by_cases h100 : im ≤ 100 ∧ fm ≤ 100
        · obtain ⟨hi100, hf100⟩ := h100
          have hi' : (im : Int) ≤ 100 := by omega
          have hf' : (fm : Int) ≤ 100 := by omega
          go_wp2_with (go_at_call 5; rw [HW1.out.1, HW1.out.2]; refine HH2.out.mono ?_; rintro e w3 ⟨⟨bv, rfl, hbv⟩, hw3⟩; rw [hw3]; clear hw3 w3; cases bv)
          rotate_left
          · go_ret
            exact ⟨rfl, grown_below HG1.out⟩
          · have h2000 : tn ≤ 2000 := hbv (by simp)
            have HCp : Hid (Calls Try.prog 6 #[.slice ta tn tc] W1 fun e w' => ∃ a' c', e = .returned (.slice a' tn c') ∧ TysIn w'.heap.size w' a' tn c' T ∧ W1.grownBy w' none) := copyTypes_any (HT.out W1 (World.grownBy.refl _ _)) HG1.out.size h2000 HTf.out
            clear hbv HH2
            go_wp2_with (go_at_call 6; refine HCp.out.mono ?_; rintro e W4 ⟨a4, c4, rfl, hT4, hg4⟩; have HT4 : Hid (TysIn W4.heap.size W4 a4 tn c4 T) := hT4; have HG4 : Hid (W1.grownBy W4 none) := hg4; clear hT4 hg4)
            clear HCp b0 b1 b2
            have b1 := (HK1.out.grow HG4.out).cell (i := 1) rfl
            have b2 := (HK1.out.grow HG4.out).cell (i := 2) rfl
            have HCi : Hid (∀ W, W4.grownBy W none → Calls Try.prog 8 #[.slice ia im ic] W fun e w' => ∃ a' c', e = .returned (.slice a' im c') ∧ NumIn w'.heap.size w' a' im c' I ∧ W.grownBy w' none) := fun W g => (copyNums_any (HI.out W (grown_trans HG4.out g)) HZi.out (by show im * 8 ≤ 140737488351232; omega)).mono fun e w' ⟨a', c', he, hn, _, _, hg⟩ => ⟨a', c', he, hn, hg⟩
            have HCf : Hid (∀ W, W4.grownBy W none → Calls Try.prog 8 #[.slice fa fm fc] W fun e w' => ∃ a' c', e = .returned (.slice a' fm c') ∧ NumIn w'.heap.size w' a' fm c' F ∧ W.grownBy w' none) := fun W g => (copyNums_any (HF.out W (grown_trans HG4.out g)) HZf.out (by show fm * 8 ≤ 140737488351232; omega)).mono fun e w' ⟨a', c', he, hn, _, _, hg⟩ => ⟨a', c', he, hn, hg⟩
            obtain ⟨E, hE⟩ : ∃ E, E = Ab.err T tn I im F fm := ⟨_, rfl⟩
            obtain ⟨A, hA⟩ : ∃ A, A = Ab.lA T tn I im F fm := ⟨_, rfl⟩
            obtain ⟨R, hR⟩ : ∃ R, R = Ab.lR T tn I im F fm := ⟨_, rfl⟩
            obtain ⟨s, hs⟩ : ∃ s, s = Ab.sN T tn I im F fm := ⟨_, rfl⟩
            have HPl : Hid (∀ W n3a n3c N3 n6a n6c N6, W4.grownBy W none → NumIn N3 W n3a im n3c I → NumIn N6 W n6a fm n6c F → Calls Try.prog 7 #[.slice a4 tn c4, .slice n3a im n3c, .slice n6a fm n6c] W fun e w' => ∃ x va vr, e = .returned (.tuple #[x, .int .i64 E]) ∧ AsgO w' W4.heap.size x A R s va vr ∧ W.grownBy w' none) := fun W n3a n3c N3 n6a n6c N6 g h3 h6 => by
              rw [hE, hA, hR, hs]
              exact (places_any (HT4.out.grow g) g.size (h3.hi (Nat.le_add_right N3 N6)) (h6.hi (Nat.le_add_left N6 N3))).mono fun e w' ⟨x, va, vr, he, ho, hg⟩ => ⟨x, va, vr, he, ho.low g.size, hg⟩
            have HRf : Hid (∀ W, W4.grownBy W none → Calls Try.prog 9 #[.slice ta tn tc, .slice ia im ic, .slice fa fm fc] W fun e w' => ∃ x va vr, e = .returned (.tuple #[x, .int .i64 E]) ∧ AsgO w' W.heap.size x A R s va vr ∧ W.grownBy w' none) := fun W g => by
              rw [hE, hA, hR, hs]
              exact rPlaces11_any (HT.out W (grown_trans HG4.out g)) (by have := HG1.out.size; have := HG4.out.size; have := g.size; omega) (HI.out W (grown_trans HG4.out g)) (HF.out W (grown_trans HG4.out g)) hi' hf'
            have HLn : Hid (A.length ≤ 1000 ∧ R.length ≤ 1000) := by rw [hA, hR]; exact Ab.l_len T tn I im F fm
            clear hE hA hR hs
            go_cut [6, 7] (fun p e wx => CutA W4.heap.size E A R s W4 p e wx)
            case first =>
              refine region_late 12 10 _ _ _ (psiL [eqV (.slice a4 tn c4), eqV (.pointer (some ⟨B1, 1, none⟩)), eqV (.slice ia im ic), numV im I, eqV (.pointer (some ⟨B1, 2, none⟩)), eqV (.slice fa fm fc), numV fm F, asgT W4.heap.size E A R s, asgT W4.heap.size E A R s, asgX W4.heap.size A R s, eqV (.int .i64 E), newA W4.heap.size]) (by kernel_rfl) (by kernel_rfl) rfl rfl rfl (by kernel_rfl) (by kernel_rfl) (psiL_hst (by repeat (first | exact stab_nil | refine stab_cons ?_ ?_ | exact stab_eq _ | exact stab_num _ _ | exact stab_asgT _ _ _ _ _ | exact stab_asgX _ _ _ _ | exact stab_newA _ | exact stab_eq _))) ?_ ?_ ?_
              · simp only [List.take_succ_cons, List.take_zero]
                refine ⟨?_, ?_, ?_, ?_, ?_, ?_, ?_, ?_, ?_, ?_, ?_, ?_, trivial⟩
                · intro VV W0 AA g hV hs hz
                  have e05 := hz 5 (.slice a4 tn c4) (by kernel_rfl) rfl
                  clear hV hs hz
                  refine outO_val (v := .slice a4 tn c4) (w' := W0) ?_ (World.grownBy.refl _ _) rfl
                  simp [go_sem, e05]
                · intro VV W0 AA g hV hs hz
                  have e04 := hz 4 (.pointer (some ⟨B1, 0, none⟩)) (by kernel_rfl) rfl
                  clear hV hs hz
                  refine outO_val (v := .pointer (some ⟨B1, 1, none⟩)) (w' := W0) ?_ (World.grownBy.refl _ _) rfl
                  simp [go_sem, e04]
                · intro VV W0 AA g hV hs hz
                  have gD : W4.grownBy W0 none := grown_trans (grown_drew (World.grownBy.refl _ none)) g
                  have q1 : VV 1 = .pointer (some ⟨B1, 1, none⟩) := hV 1 (by kernel_rfl)
                  have e1 := hs 44 1 (by kernel_rfl) (by kernel_rfl)
                  have x0 := gD.cell b1 (by simp)
                  clear hV hs hz
                  refine outO_val (v := .slice ia im ic) (w' := W0) ?_ (World.grownBy.refl _ _) rfl
                  simp [go_sem, q1, e1, x0]
                · intro VV W0 AA g hV hs hz
                  have gD : W4.grownBy W0 none := grown_trans (grown_drew (World.grownBy.refl _ none)) g
                  have q2 : VV 2 = .slice ia im ic := hV 2 (by kernel_rfl)
                  have e2 := hs 45 2 (by kernel_rfl) (by kernel_rfl)
                  clear hV hs hz
                  refine outO_call (f := 8) ?_ ((HCi.out W0 gD).mono fun e w2 ⟨a', c', he, hn, hg⟩ => ⟨_, he, hg, a', c', _, rfl, hn⟩)
                  simp [go_sem, q2, e2]
                · intro VV W0 AA g hV hs hz
                  have e04 := hz 4 (.pointer (some ⟨B1, 0, none⟩)) (by kernel_rfl) rfl
                  clear hV hs hz
                  refine outO_val (v := .pointer (some ⟨B1, 2, none⟩)) (w' := W0) ?_ (World.grownBy.refl _ _) rfl
                  simp [go_sem, e04]
                · intro VV W0 AA g hV hs hz
                  have gD : W4.grownBy W0 none := grown_trans (grown_drew (World.grownBy.refl _ none)) g
                  have q4 : VV 4 = .pointer (some ⟨B1, 2, none⟩) := hV 4 (by kernel_rfl)
                  have e4 := hs 47 4 (by kernel_rfl) (by kernel_rfl)
                  have x0 := gD.cell b2 (by simp)
                  clear hV hs hz
                  refine outO_val (v := .slice fa fm fc) (w' := W0) ?_ (World.grownBy.refl _ _) rfl
                  simp [go_sem, q4, e4, x0]
                · intro VV W0 AA g hV hs hz
                  have gD : W4.grownBy W0 none := grown_trans (grown_drew (World.grownBy.refl _ none)) g
                  have q5 : VV 5 = .slice fa fm fc := hV 5 (by kernel_rfl)
                  have e5 := hs 48 5 (by kernel_rfl) (by kernel_rfl)
                  clear hV hs hz
                  refine outO_call (f := 8) ?_ ((HCf.out W0 gD).mono fun e w2 ⟨a', c', he, hn, hg⟩ => ⟨_, he, hg, a', c', _, rfl, hn⟩)
                  simp [go_sem, q5, e5]
                · intro VV W0 AA g hV hs hz
                  have gD : W4.grownBy W0 none := grown_trans (grown_drew (World.grownBy.refl _ none)) g
                  have q0 : VV 0 = .slice a4 tn c4 := hV 0 (by kernel_rfl)
                  have e0 := hs 43 0 (by kernel_rfl) (by kernel_rfl)
                  have p3 : (numV im I) (VV 3) W0 := hV 3 (by kernel_rfl)
                  have e3 := hs 46 3 (by kernel_rfl) (by kernel_rfl)
                  have p6 : (numV fm F) (VV 6) W0 := hV 6 (by kernel_rfl)
                  have e6 := hs 49 6 (by kernel_rfl) (by kernel_rfl)
                  clear hV hs hz
                  obtain ⟨n3a, n3c, N3, q3, hn3⟩ := p3
                  obtain ⟨n6a, n6c, N6, q6, hn6⟩ := p6
                  refine outO_call (f := 7) ?_ ((HPl.out W0 n3a n3c N3 n6a n6c N6 gD hn3 hn6).mono fun e w2 ⟨x, va, vr, he, ho, hg⟩ => ⟨_, he, hg, x, va, vr, rfl, ho⟩)
                  simp [go_sem, q0, e0, e3, e6, q3, q6]
                · intro VV W0 AA g hV hs hz
                  have gD : W4.grownBy W0 none := grown_trans (grown_drew (World.grownBy.refl _ none)) g
                  have p7 : (asgT W4.heap.size E A R s) (VV 7) W0 := hV 7 (by kernel_rfl)
                  have e7 := hs 50 7 (by kernel_rfl) (by kernel_rfl)
                  clear hV hs hz
                  exact outO_val (v := VV 7) (w' := W0) (by simp [go_sem, e7]) (World.grownBy.refl _ _) p7
                · intro VV W0 AA g hV hs hz
                  have gD : W4.grownBy W0 none := grown_trans (grown_drew (World.grownBy.refl _ none)) g
                  have p8 : (asgT W4.heap.size E A R s) (VV 8) W0 := hV 8 (by kernel_rfl)
                  have e8 := hs 42 8 (by kernel_rfl) (by kernel_rfl)
                  clear hV hs hz
                  obtain ⟨x8, a8, r8, q8, ho8⟩ := p8
                  exact outO_val (v := x8) (w' := W0) (by simp [go_sem, e8, q8]) (World.grownBy.refl _ _) ⟨a8, r8, ho8⟩
                · intro VV W0 AA g hV hs hz
                  have gD : W4.grownBy W0 none := grown_trans (grown_drew (World.grownBy.refl _ none)) g
                  have p8 : (asgT W4.heap.size E A R s) (VV 8) W0 := hV 8 (by kernel_rfl)
                  have e8 := hs 42 8 (by kernel_rfl) (by kernel_rfl)
                  clear hV hs hz
                  obtain ⟨x8, a8, r8, q8, _⟩ := p8
                  exact outO_val (v := .int .i64 E) (w' := W0) (by simp [go_sem, e8, q8]) (World.grownBy.refl _ _) rfl
                · intro VV W0 AA g hV hs hz
                  have gD : W4.grownBy W0 none := grown_trans (grown_drew (World.grownBy.refl _ none)) g
                  clear hV hs hz
                  refine outO_val (v := .pointer (some ⟨W0.heap.size, 0, none⟩)) (w' := W0.alloc (Obj.cells #[.slice none 0 0, .slice none 0 0, .int .i64 0] 31)) ?_ (World.grownBy_alloc _ _ _) ⟨W0.heap.size, rfl, Bk.new _ _ _, gD.size⟩
                  simp [go_sem]
              · intro VV W0 g hV
                have gD : W4.grownBy W0 none := grown_trans (grown_drew (World.grownBy.refl _ none)) g
                have h0 : VV 0 = .slice a4 tn c4 := hV 0 (by decide)
                have h1 : VV 1 = .pointer (some ⟨B1, 1, none⟩) := hV 1 (by decide)
                have h2 : VV 2 = .slice ia im ic := hV 2 (by decide)
                have p3 : (numV im I) (VV 3) W0 := hV 3 (by decide)
                obtain ⟨n3a, n3c, _, h3, _⟩ := p3
                have h4 : VV 4 = .pointer (some ⟨B1, 2, none⟩) := hV 4 (by decide)
                have h5 : VV 5 = .slice fa fm fc := hV 5 (by decide)
                have p6 : (numV fm F) (VV 6) W0 := hV 6 (by decide)
                obtain ⟨n6a, n6c, _, h6, _⟩ := p6
                have p7 : (asgT W4.heap.size E A R s) (VV 7) W0 := hV 7 (by decide)
                obtain ⟨y7, h7⟩ : ∃ y, VV 7 = y := ⟨_, rfl⟩
                clear p7
                have p8 : (asgT W4.heap.size E A R s) (VV 8) W0 := hV 8 (by decide)
                obtain ⟨x8, a8, r8, h8, _⟩ := p8
                have p9 : (asgX W4.heap.size A R s) (VV 9) W0 := hV 9 (by decide)
                obtain ⟨va, vr, ho9⟩ := p9
                have h9 := ho9.e
                rw [h9] at ho9
                have p10 : (eqV (.int .i64 E)) (VV 10) W0 := hV 10 (by decide)
                have h10 : VV 10 = .int .i64 E := p10
                have p11 : (newA W4.heap.size) (VV 11) W0 := hV 11 (by decide)
                obtain ⟨B6, h11, k6, hB6⟩ := p11
                simp [frV, dstOf, Act.put, h0, h1, h2, h3, h4, h5, h6, h7, h8, h9, h10, h11]
                clear h0 h1 h2 h3 h4 h5 h6 h7 h8 h9 h10 h11 hV g
                have GD : Hid (W4.grownBy W0 none) := gD
                clear gD
                have HO9 : Hid (AsgO W0 W4.heap.size (.agg #[va, vr, .int .i64 s]) A R s va vr) := ho9
                have HK6 : Hid (Bk W0 B6 31 [.slice none 0 0, .slice none 0 0, .int .i64 0]) := k6
                have z0 := k6.cell (i := 0) rfl
                have z1 := k6.cell (i := 1) rfl
                have z2 := k6.cell (i := 2) rfl
                have f0 := k6.frozen 0
                have f1 := k6.frozen 1
                have f2 := k6.frozen 2
                obtain ⟨aa, ac, hva, _⟩ := ho9.a.slice
                obtain ⟨ra, rc, hvr, _⟩ := ho9.r.slice
                generalize A.length = an at hva
                generalize R.length = rn at hvr
                subst hva hvr
                clear ho9 k6
                go_wp2_with fail
                go_meet
                exact cutA (Nat.le_refl _) HK6.out HO9.out GD.out hB6
              · intro VV W0 g hV hold
                have gD : W4.grownBy W0 none := grown_trans (grown_drew (World.grownBy.refl _ none)) g
                have h0 : VV 0 = .slice a4 tn c4 := hV 0 (by decide) (by decide)
                have h1 : VV 1 = .pointer (some ⟨B1, 1, none⟩) := hV 1 (by decide) (by decide)
                have h2 : VV 2 = .slice ia im ic := hV 2 (by decide) (by decide)
                have p3 : (numV im I) (VV 3) W0 := hV 3 (by decide) (by decide)
                obtain ⟨n3a, n3c, _, h3, _⟩ := p3
                have h4 : VV 4 = .pointer (some ⟨B1, 2, none⟩) := hV 4 (by decide) (by decide)
                have h5 : VV 5 = .slice fa fm fc := hV 5 (by decide) (by decide)
                have p6 : (numV fm F) (VV 6) W0 := hV 6 (by decide) (by decide)
                obtain ⟨n6a, n6c, _, h6, _⟩ := p6
                have p7 : (asgT W4.heap.size E A R s) (VV 7) W0 := hV 7 (by decide) (by decide)
                obtain ⟨y7, h7⟩ : ∃ y, VV 7 = y := ⟨_, rfl⟩
                clear p7
                have p8 : (asgT W4.heap.size E A R s) (VV 8) W0 := hV 8 (by decide) (by decide)
                obtain ⟨x8, a8, r8, h8, _⟩ := p8
                have p9 : (asgX W4.heap.size A R s) (VV 9) W0 := hV 9 (by decide) (by decide)
                obtain ⟨va, vr, ho9⟩ := p9
                have h9 := ho9.e
                rw [h9] at ho9
                obtain ⟨y10, h10⟩ : ∃ y, VV 10 = y := ⟨_, rfl⟩
                have p11 : (newA W4.heap.size) (VV 11) W0 := hV 11 (by decide) (by decide)
                obtain ⟨B6, h11, k6, hB6⟩ := p11
                simp [frV, dstOf, Act.put, h0, h1, h2, h3, h4, h5, h6, h7, h8, h9, h10, h11]
                clear h0 h1 h2 h3 h4 h5 h6 h7 h8 h9 h10 h11 hV g hold
                have GD : Hid (W4.grownBy W0 none) := gD
                clear gD
                have HO9 : Hid (AsgO W0 W4.heap.size (.agg #[va, vr, .int .i64 s]) A R s va vr) := ho9
                have HK6 : Hid (Bk W0 B6 31 [.slice none 0 0, .slice none 0 0, .int .i64 0]) := k6
                have z0 := k6.cell (i := 0) rfl
                have z1 := k6.cell (i := 1) rfl
                have z2 := k6.cell (i := 2) rfl
                have f0 := k6.frozen 0
                have f1 := k6.frozen 1
                have f2 := k6.frozen 2
                obtain ⟨aa, ac, hva, _⟩ := ho9.a.slice
                obtain ⟨ra, rc, hvr, _⟩ := ho9.r.slice
                generalize A.length = an at hva
                generalize R.length = rn at hvr
                subst hva hvr
                clear ho9 k6
                go_wp2_with fail
                go_meet
                exact cutA (Nat.le_refl _) HK6.out HO9.out GD.out hB6
            case rest =>
              obtain ⟨B6, va, vr, rfl, rfl, k6, ho6, g6, hB6⟩ := hcut
              obtain ⟨W6, hwc⟩ : ∃ x, x = wc := ⟨_, rfl⟩
              rw [← hwc] at k6 ho6 g6 ⊢
              clear hwc
              have HG6 : Hid (W4.grownBy W6 none) := g6
              have HO6 : Hid (AsgO W6 W4.heap.size (.agg #[va, vr, .int .i64 s]) A R s va vr) := ho6
              have HK6 : Hid (Bk W6 B6 31 [va, vr, .int .i64 s]) := k6
              have hk1 := HK1.out.grow (grown_trans HG4.out g6)
              have b0 := hk1.cell (i := 0) rfl
              clear b1 b2
              have b1 := hk1.cell (i := 1) rfl
              have b2 := hk1.cell (i := 2) rfl
              obtain ⟨aa, ac, hva, hpa⟩ := ho6.a.pcIn
              obtain ⟨ra, rc, hvr, hpr⟩ := ho6.r.pcIn
              have HPa : Hid (PcIn W6 aa A.length ac (fun i => A.getD i Ab.pc0)) := hpa
              have HPr : Hid (PcIn W6 ra R.length rc (fun i => R.getD i Ab.pc0)) := hpr
              subst hva hvr
              obtain ⟨hla, hlr⟩ := HLn.out
              have hla' : (A.length : Int) ≤ 1000 := by omega
              have hlr' : (R.length : Int) ≤ 1000 := by omega
              have HET : Hid (∀ W, W6.grownBy W none → Calls Try.prog 12 #[.slice a4 tn c4, .slice ta tn tc] W fun e w' => e = .returned (.bool true) ∧ W.grownBy w' none) := fun W g => eqTypes_true (HT4.out.grow (grown_trans HG6.out g)) (HT.out W (grown_trans HG4.out (grown_trans HG6.out g)))
              have HEA : Hid (∀ W aa' ac' ra' rc', W6.grownBy W none → PcIn W aa' A.length ac' (fun i => A.getD i Ab.pc0) → PcIn W ra' R.length rc' (fun i => R.getD i Ab.pc0) → Calls Try.prog 11 #[.agg #[.slice aa A.length ac, .slice ra R.length rc, .int .i64 s], .agg #[.slice aa' A.length ac', .slice ra' R.length rc', .int .i64 s]] W fun e w' => e = .returned (.bool true) ∧ W.grownBy w' none) := fun W aa' ac' ra' rc' g h1 h2 => eqAssign_true (HPa.out.grow g) h1 (fun _ _ => rfl) hla' (HPr.out.grow g) h2 (fun _ _ => rfl) hlr'
              have HSp : Hid (∀ W, W6.grownBy W none → Calls Try.prog 13 #[.agg #[.slice aa A.length ac, .slice ra R.length rc, .int .i64 s]] W fun e w' => e = .returned (.tuple #[]) ∧ ∃ l, Ch W w' l ∧ ∀ q, q ∈ l → W4.heap.size ≤ q) := fun W g => spoilA (HO6.out.grow g) hla hlr (Nat.le_trans HG6.out.size g.size)
              have HRg : Hid (∀ W, W6.grownBy W none → Calls Try.prog 9 #[.slice ta tn tc, .slice ia im ic, .slice fa fm fc] W fun e w' => ∃ aa' ac' ra' rc', e = .returned (.tuple #[.agg #[.slice aa' A.length ac', .slice ra' R.length rc', .int .i64 s], .int .i64 E]) ∧ PcIn w' aa' A.length ac' (fun i => A.getD i Ab.pc0) ∧ PcIn w' ra' R.length rc' (fun i => R.getD i Ab.pc0) ∧ W.grownBy w' none) := fun W g => (HRf.out W (grown_trans HG6.out g)).mono fun e w' ⟨x, va, vr, he, ho, hg⟩ => by
                obtain ⟨aa', ac', hva, hpa'⟩ := ho.a.pcIn
                obtain ⟨ra', rc', hvr, hpr'⟩ := ho.r.pcIn
                have hx := ho.e
                rw [hva, hvr] at hx
                rw [hx] at he
                exact ⟨aa', ac', ra', rc', he, hpa', hpr', hg⟩
              clear hpa hpr ho6 k6 g6 hk1 HPl HCi HCf hB6 HRf HO6 HLn hla hlr hla' hlr'
              have HEq : Hid (∀ x : Int, (x != x) = false) := fun x => by simp
              generalize A.length = an at *
              generalize R.length = rn at *
              generalize (fun i => A.getD i Ab.pc0) = PA at *
              generalize (fun i => R.getD i Ab.pc0) = PR at *
              go_wp2_with (first
                | (go_at_call 9; refine (HRg.out _ (World.grownBy.refl _ _)).mono ?_; clear HRg; rintro e w7 ⟨aa', ac', ra', rc', rfl, hpa7, hpr7, hg7⟩; have hg8 := World.grownBy_alloc w7 (Obj.cells #[.slice aa' an ac', .slice ra' rn rc', .int .i64 s] 31) none; have HPa7 : Hid (PcIn (w7.alloc (Obj.cells #[.slice aa' an ac', .slice ra' rn rc', .int .i64 s] 31)) aa' an ac' PA) := hpa7.grow hg8; have HPr7 : Hid (PcIn (w7.alloc (Obj.cells #[.slice aa' an ac', .slice ra' rn rc', .int .i64 s] 31)) ra' rn rc' PR) := hpr7.grow hg8; have HG7 : Hid (W6.grownBy (w7.alloc (Obj.cells #[.slice aa' an ac', .slice ra' rn rc', .int .i64 s] 31)) none) := grown_trans hg7 hg8; have z0 := (HK6.out.grow HG7.out).cell (i := 0) rfl; have z1 := (HK6.out.grow HG7.out).cell (i := 1) rfl; have z2 := (HK6.out.grow HG7.out).cell (i := 2) rfl; clear hpa7 hpr7 hg7 hg8 b0 b1 b2)
                | (go_at_call 10; refine (HN.out _ _).mono ?_; rintro e w8 ⟨rfl, hw8⟩; rw [hw8]; clear hw8 w8)
                | (go_at_call 11; refine (HEA.out _ aa' ac' ra' rc' HG7.out HPa7.out HPr7.out).mono ?_; rintro e w9 ⟨rfl, hg9⟩; have HG9 : Hid (W6.grownBy w9 none) := grown_trans HG7.out hg9; clear z0 z1 z2 hg9; have b0 := (HK1.out.grow (grown_trans HG4.out (grown_trans HG6.out HG9.out))).cell (i := 0) rfl)
                | (go_at_call 12; refine (HET.out _ HG9.out).mono ?_; clear b0; rintro e w10 ⟨rfl, hg10⟩; have HG10 : Hid (W6.grownBy w10 none) := grown_trans HG9.out hg10; clear hg10; have z0 := (HK6.out.grow HG10.out).cell (i := 0) rfl; have z1 := (HK6.out.grow HG10.out).cell (i := 1) rfl; have z2 := (HK6.out.grow HG10.out).cell (i := 2) rfl)
                | (go_at_call 13; refine (HSp.out _ HG10.out).mono ?_; clear z0 z1 z2; rintro e w11 ⟨rfl, l11, hc11, hl11⟩))
              go_roundw
              case rel =>
                refine ⟨k + 1, by go_num, by omega, ?_⟩
                have s1 := HG1.out.size
                have s4 := HG4.out.size
                exact ((Ch.of (l := l11) (grown_trans HG1.out (grown_trans HG4.out (grown_trans HG6.out HG10.out)))).trans hc11).nil (fun q hq => by have := hl11 q hq; omega)
              case measure => simp [intOf]; omega
        · rcases (show (100 : Int) < im ∨ ((im : Int) ≤ 100 ∧ (100 : Int) < fm) by omega) with hi' | ⟨hi', hf'⟩
          all_goals
            go_wp2_with (go_at_call 5; rw [HW1.out.1, HW1.out.2]; refine HH2.out.mono ?_; rintro e w3 ⟨⟨bv, rfl, hbv⟩, hw3⟩; rw [hw3]; clear hw3 w3 hbv)
          all_goals
            go_ret
            exact ⟨rfl, grown_below HG1.out⟩
      · clear hg
        rcases (show (k : Int) < len ∧ ¬ (k : Int) < 15 ∨ ¬ (k : Int) < len by omega) with ⟨h1, h2⟩ | h1
        all_goals
          go_wp2_with (go_at_call 14; refine (HW.out _).mono ?_; rintro r w1 ⟨rfl, g1⟩)
          go_ret
          exact ⟨rfl, grown_below (grown_trans HG.out g1)⟩
end Go.Proofs.Ytdfjaedafampaaa
