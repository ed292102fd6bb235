/- RawBack: the walk. -/
import Derived.Test.YtljdjkiejppenaaG12
import Derived.Test.YtljdjkiejppenaaRuGd
import Derived.BigGuardPart
namespace Go.Proofs.Ytljdjkiejppenaa
open Go.RowKit
set_option linter.unusedVariables false

set_option maxRecDepth 100000 in
set_option maxHeartbeats 16000000 in
theorem rawBack_walk (a0 : Option Addr) (cap : Nat) (l : List Pg.Pr) (w : World) (h : RowL 2 48 (· < w.heap.size) (PrAt (· < w.heap.size) w) a0 cap l) :
    Calls Try.prog 5 #[.slice a0 l.length cap] w fun e w' => e = .returned (.bool true) ∧ w.grownBy w' none := by
  have hle := h.le
  have hmx := h.max
  unfold maxLen at hmx
  have HL : Hid (RowL 2 48 (· < w.heap.size) (PrAt (· < w.heap.size) w) a0 cap l) := h
  clear h
  go_enter Try.func5, Try.ntmps5
  go_wp2_with fail
  go_loopw [3] (fun ix wr => ∃ k : Nat, ix = .int .i64 k ∧ k ≤ l.length ∧ k ≤ 12 ∧ w.grownBy wr none) (fun ix _ => l.length - (intOf ix).toNat)
  case atStart => exact ⟨0, rfl, Nat.zero_le _, by omega, World.grownBy.refl _ _⟩
  case round =>
    obtain ⟨k, rfl, hk, hk12, hg⟩ := hrel
    have HG : Hid (w.grownBy wr none) := hg
    by_cases hgo : k < l.length ∧ k < 12
    case neg =>
      have HW := wakes8 wr
      clear hg
      have hcond : ((decide ((k : Int) < l.length)) = false) ∨ (decide ((k : Int) < l.length) = true ∧ decide ((k : Int) < 12) = false) := by
        by_cases hkn : k < l.length
        · exact .inr ⟨decide_eq_true (by omega), decide_eq_false (by omega)⟩
        · exact .inl (decide_eq_false (by omega))
      rcases hcond with d2 | ⟨d2, d3⟩
      · have d4 : ¬ ((k : Int) < l.length) := by simpa using d2
        clear hgo
        go_wp2_with (go_at_call 15; refine HW.mono ?_; rintro e w4 ⟨rfl, hg4⟩; have G4 : Hid (wr.grownBy w4 none) := hg4; clear hg4)
        go_ret
        exact ⟨rfl, grown_trans HG.out G4.out⟩
      · have d4 : (k : Int) < l.length := by simpa using d2
        have d5 : ¬ ((k : Int) < 12) := by simpa using d3
        clear hgo
        go_wp2_with (go_at_call 15; refine HW.mono ?_; rintro e w4 ⟨rfl, hg4⟩; have G4 : Hid (wr.grownBy w4 none) := hg4; clear hg4)
        go_ret
        exact ⟨rfl, grown_trans HG.out G4.out⟩
    obtain ⟨hkn, hk12'⟩ := hgo
    have hkn' : (k : Int) < l.length := by omega
    have hk13 : (k : Int) < 12 := by omega
    obtain ⟨b, o, rfl, hb, hx⟩ := HL.out.at hkn
    obtain ⟨a1, a2, k1, k2, c0', c1', hp⟩ := hx
    have HC0 : Hid (∀ W, wr.grownBy W none → W.cell? ⟨b, o + k * 2, none⟩ = some (.slice a1 l[k].types.length k1) ∧ W.cell? ⟨b, o + k * 2 + 1, none⟩ = some (.slice a2 l[k].funcs.length k2) ∧ PrC (· < w.heap.size) W l[k] a1 a2 k1 k2) := fun W g => ⟨(grown_trans HG.out g).cell c0' (by simp), (grown_trans HG.out g).cell c1' (by simp), TpL.grow hp.t (grown_trans HG.out g), FnL.grow hp.f (grown_trans HG.out g)⟩
    clear c0' c1' hp
    generalize l[k] = p at *
    obtain ⟨c0, c1, hp⟩ := HC0.out wr (World.grownBy.refl _ _)
    have HW : Hid (Calls Try.prog 6 #[.agg #[.slice a1 p.types.length k1, .slice a2 p.funcs.length k2], .int .i64 2000] wr fun e w' => ∃ r, e = .returned (.int .i64 r) ∧ (r ≤ 2000 → r = p.w) ∧ wr.grownBy w' none) := weight_any (by decide) hp
    clear hp hg
    go_wp2_with (go_at_call 6; refine HW.out.mono ?_; rintro e w1 ⟨r, rfl, hr, hg1⟩; have G1 : Hid (wr.grownBy w1 none) := hg1; have R1 : Hid (r ≤ 2000 → r = p.w) := hr; obtain ⟨m0, m1, _⟩ := HC0.out w1 hg1; clear hg1 hr HW)
    · go_ret
      exact ⟨rfl, grown_trans HG.out G1.out⟩
    have hr4 : r ≤ 2000 := by assumption
    have hpw : p.w ≤ 60000 := by have := R1.out hr4; omega
    obtain ⟨m0, m1, hp1⟩ := HC0.out w1 G1.out
    obtain ⟨b1, b2, b3, b4, b5⟩ := pr_rm hp1 hpw
    have HCP : Hid (Calls Try.prog 7 #[.agg #[.slice a1 p.types.length k1, .slice a2 p.funcs.length k2]] w1 fun e w' => ∃ a1' k1' a2' k2', e = .returned (.agg #[.slice a1' p.types.length k1', .slice a2' p.funcs.length k2']) ∧ (TpL (Fresh w1 w') w' a1' k1' p.types ∧ FnL (Fresh w1 w') w' a2' k2' p.funcs) ∧ w1.grownBy w' none) := copyProgram_any (fun q hq => Nat.lt_of_lt_of_le hq (Nat.le_trans HG.out.size G1.out.size)) hp1.t hp1.f
    have B1 : Hid (Rm ⟨false, 0, 0, 0⟩ [] p.dl) := b1
    have B2 : Hid (p.dl.nd ≤ 100000000) := b2
    have B3 : Hid (p.dl.en.length ≤ 1000000000) := b3
    have B5 : Hid (p.dl.may = p.may) := b5
    have hsz : w.heap.size ≤ w1.heap.size := Nat.le_trans HG.out.size G1.out.size
    have HST : Hid (∀ f, f ∈ p.funcs → ∀ y, y ∈ f.body → StR y) := hp1.f.rr
    clear hp1 b1 b2 b3 b5 hpw
    by_cases he : p.err = 0
    case neg =>
      obtain ⟨E, hE⟩ : ∃ E, E = p.err := ⟨_, rfl⟩
      have HE : Hid (E = p.err) := hE
      have HNE : Hid (p.err ≠ 0) := he
      have hne : (E != 0) = true := by rw [hE]; simpa using he
      have hne' : ¬ E = 0 := by rw [hE]; exact he
      clear he b4 hE
      go_wp2_with (first
        | (go_at_call 7; refine HCP.out.mono ?_; rintro e w2 ⟨a1', k1', a2', k2', rfl, ⟨hT, hF⟩, hg2⟩; have G2 : Hid (w1.grownBy w2 none) := hg2; have HPc : PrC (· < w2.heap.size) w2 p a1' a2' k1' k2' := ⟨TpL.ch hT (l := []) (Ch.refl _ _) (by simp) (fun q h => h.2), FnL.ch hF (l := []) (Ch.refl _ _) (by simp) (fun q h => h.2)⟩; have HEn : Hid (Calls Try.prog 8 #[.agg #[.slice a1' p.types.length k1', .slice a2' p.funcs.length k2']] w2 fun e w' => e = .returned (.tuple #[.slice none 0 0, .int .i64 E]) ∧ w2.grownBy w' none) := (by have := encode_no (w := w2) (p := p) (a1 := a1') (a2 := a2') (k1 := k1') (k2 := k2') HPc B1.out HNE.out; rw [← HE.out] at this; exact this); clear hT hF hg2 HPc HCP)
        | (go_at_call 8; refine HEn.out.mono ?_; rintro e w3 ⟨rfl, hg3⟩; have G3 : Hid (w2.grownBy w3 none) := hg3; clear hg3 HEn)
        | (go_at_call 10; refine (num8 _ _).mono ?_; rintro e w4 ⟨rfl, hw⟩; rw [hw]; clear hw w4))
      go_roundw
      case rel => exact ⟨k + 1, by go_num, by omega, by omega, grown_trans HG.out (grown_trans G1.out (grown_trans G2.out G3.out))⟩
      case measure => simp [intOf]; omega
    have HE : Hid (p.err = 0) := he
    obtain ⟨z1, z2, z3⟩ := rerr_zero (b4.symm.trans he)
    have hmay : p.dl.may = true := B5.out.trans z1
    have HMy : Hid (p.dl.may = true) := hmay
    have HZ : Hid (p.dl.nd ≤ 2048 ∧ p.dl.dp ≤ 32) := ⟨z2, z3⟩
    obtain ⟨N, hm⟩ : ∃ N, p.dl.en.length = N := ⟨_, rfl⟩
    have HM : Hid (p.dl.en.length = N) := hm
    have hN1 : 1 ≤ N := by rw [← hm]; exact pr_pos hmay
    have hN0 : ((N : Int) == 0) = false := by simp; omega
    have hN2 : (0 : Int) ≤ (N : Int) - 1 := by omega
    have hNb : (N : Int) ≤ 1000000000 := by have := B3.out; omega
    have HMN : Hid (N ≤ 1000000000) := by show _ ≤ _; have := B3.out; omega
    clear he b4 z1 z2 z3 hmay hm
    go_wp2_with (first
      | (go_at_call 7; refine HCP.out.mono ?_; rintro e w2 ⟨a1', k1', a2', k2', rfl, ⟨hT, hF⟩, hg2⟩; have G2 : Hid (w1.grownBy w2 none) := hg2; have HPc : PrC (· < w2.heap.size) w2 p a1' a2' k1' k2' := ⟨TpL.ch hT (l := []) (Ch.refl _ _) (by simp) (fun q h => h.2), FnL.ch hF (l := []) (Ch.refl _ _) (by simp) (fun q h => h.2)⟩; have HEn : Hid (Calls Try.prog 8 #[.agg #[.slice a1' p.types.length k1', .slice a2' p.funcs.length k2']] w2 fun e w' => ∃ v, e = .returned (.tuple #[v, .int .i64 0]) ∧ OwnL w' w2.heap.size v p.dl.en ∧ w2.grownBy w' none) := (encode_ok (w := w2) (p := p) (a1 := a1') (a2 := a2') (k1 := k1') (k2 := k2') HPc B1.out HE.out); clear hT hF hg2 HPc HCP)
      | (go_at_call 8; refine HEn.out.mono ?_; rintro e w3 ⟨v, rfl, ho3, hg3⟩; obtain ⟨q, cp, hv, hcp, hcm, hq1, hq2⟩ := ho3.some (by have := HM.out; omega); rw [HM.out] at hv hcp; subst hv; have hcp2 : (N : Int) - 1 ≤ (cp : Int) := (by omega); clear hcm hcp hq1 hq2; have O3 : Hid (OwnL w3 w2.heap.size (.slice (some ⟨q, 0, none⟩) N cp) p.dl.en) := ho3; have G3 : Hid (w2.grownBy w3 none) := hg3; have HCB : Hid (∀ W k, w3.grownBy W none → k ≤ N → Calls Try.prog 16 #[.slice (some ⟨q, 0, none⟩) k cp] W fun e w' => ∃ a c, e = .returned (.slice a k c) ∧ OwnL w' W.heap.size (.slice a k c) (p.dl.en.take k) ∧ W.grownBy w' none) := (fun W k g hk => copyL (ho3.kept g (Classical.em _)) k cp (by rw [HM.out]; exact hk) (by simp) (by rw [HM.out]; exact HMN.out)); have HC1 : Hid (Calls Try.prog 16 #[.slice (some ⟨q, 0, none⟩) N cp] w3 fun e w' => ∃ a c, e = .returned (.slice a N c) ∧ OwnL w' w3.heap.size (.slice a N c) p.dl.en ∧ w3.grownBy w' none) := (by have := HCB.out w3 N (World.grownBy.refl _ _) (Nat.le_refl _); rw [← HM.out, List.take_length] at this; rw [← HM.out]; exact this); clear ho3 hg3 HEn)
      | (go_at_call 10; refine (num8 _ _).mono ?_; rintro e w4 ⟨rfl, hw⟩; rw [hw]; clear hw w4)
      | (go_at_call 16; refine HC1.out.mono ?_; rintro e w4 ⟨a4, c4, rfl, ho4, hg4⟩; have G4 : Hid (w3.grownBy w4 none) := hg4; have HD1 : Hid (Calls Try.prog 17 #[.slice a4 N c4] w4 fun e w' => ∃ t1 j1 t2 j2, e = .returned (.tuple #[.agg #[.slice t1 p.types.length j1, .slice t2 p.funcs.length j2], .int .i64 0]) ∧ TpL (Fresh w4 w') w' t1 j1 p.types ∧ FnL (Fresh w4 w') w' t2 j2 p.funcs ∧ w4.grownBy w' none) := (by have := decode_full (x := p) ho4.lf.1 HMy.out HST.out HZ.out.1 HZ.out.2; rw [HM.out] at this; exact this); clear ho4 hg4 HC1)
      | (go_at_call 17; refine HD1.out.mono ?_; rintro e w5 ⟨t1, j1, t2, j2, rfl, hT5, hF5, hg5⟩; have G5 : Hid (w4.grownBy w5 none) := hg5; have T5 : Hid (∀ W, w5.grownBy W none → TpL (fun q => q < w5.heap.size) W t1 j1 p.types ∧ FnL (fun q => q < w5.heap.size) W t2 j2 p.funcs) := (fun W g => ⟨TpL.ch hT5 (l := []) (Ch.of g) (by simp) (fun _ h => h.2), FnL.ch hF5 (l := []) (Ch.of g) (by simp) (fun _ h => h.2)⟩); have G35 : Hid (w3.grownBy (w5.alloc (.cells #[.slice t1 p.types.length j1, .slice t2 p.funcs.length j2] 27)) none) := (grown_trans G4.out (grown_trans hg5 (World.grownBy_alloc _ _ _))); have P5 : Hid ((w5.alloc (.cells #[.slice t1 p.types.length j1, .slice t2 p.funcs.length j2] 27)).heap[w5.heap.size]? = some (.cells #[.slice t1 p.types.length j1, .slice t2 p.funcs.length j2] 27)) := heap_alloc_new w5 _; have HC2 : Hid (Calls Try.prog 16 #[.slice (some ⟨q, 0, none⟩) N cp] (w5.alloc (.cells #[.slice t1 p.types.length j1, .slice t2 p.funcs.length j2] 27)) fun e w' => ∃ a c, e = .returned (.slice a N c) ∧ OwnL w' (w5.alloc (.cells #[.slice t1 p.types.length j1, .slice t2 p.funcs.length j2] 27)).heap.size (.slice a N c) p.dl.en ∧ (w5.alloc (.cells #[.slice t1 p.types.length j1, .slice t2 p.funcs.length j2] 27)).grownBy w' none) := (by have := HCB.out (w5.alloc (.cells #[.slice t1 p.types.length j1, .slice t2 p.funcs.length j2] 27)) N G35.out (Nat.le_refl _); rw [← HM.out, List.take_length] at this; rw [← HM.out]; exact this); clear hT5 hF5 hg5 HD1)
      | (go_at_call 16; refine HC2.out.mono ?_; rintro e w6 ⟨a6, c6, rfl, ho6, hg6⟩; have G6 : Hid ((w5.alloc (.cells #[.slice t1 p.types.length j1, .slice t2 p.funcs.length j2] 27)).grownBy w6 none) := hg6; have O6 : Hid (OwnL w6 (w5.alloc (.cells #[.slice t1 p.types.length j1, .slice t2 p.funcs.length j2] 27)).heap.size (.slice a6 N c6) p.dl.en) := ho6; clear ho6 hg6 HC2)
      | (at_builtin; refine wp_app9 rfl _ _ rfl (w5.alloc (.cells #[.slice t1 p.types.length j1, .slice t2 p.funcs.length j2] 27)).heap.size (.slice a6 N c6) p.dl.en 0 rfl O6.out rfl (by rw [HM.out]; exact HMN.out) G6.out.size ?_; intro v7 w7 o7 g7; obtain ⟨a7, c7, hv7, _⟩ := o7.toB.shape; have hl7 : (p.dl.en ++ [0]).length = N + 1 := (by rw [List.length_append, HM.out]; rfl); rw [hl7] at hv7; subst hv7; have G7 : Hid ((w5.alloc (.cells #[.slice t1 p.types.length j1, .slice t2 p.funcs.length j2] 27)).grownBy w7 none) := (by have c7 := (Ch.of (l := (Value.slice a6 N c6).ownBlock.toList) G6.out).trans (grown_cho g7); exact ⟨c7.os, c7.tape, c7.output, c7.size, fun q hq _ => c7.block q hq (fun hm => by have := (O6.out.toB.lt q (Option.mem_toList.1 hm)).1; omega)⟩); have HD2 : Hid (Calls Try.prog 17 #[.slice a7 (N + 1) c7] w7 fun e w' => e = .returned (.tuple #[.agg #[.slice none 0 0, .slice none 0 0], .int .i64 84]) ∧ w7.grownBy w' none) := (by have := decode_rest (x := p) (R := [0]) o7.lf.1 (by simp) HMy.out HST.out HZ.out.1 HZ.out.2; rw [hl7] at this; exact this); clear o7 g7 hl7)
      | (go_at_call 17; refine HD2.out.mono ?_; rintro e w8 ⟨rfl, hg8⟩; have G8 : Hid ((w5.alloc (.cells #[.slice t1 p.types.length j1, .slice t2 p.funcs.length j2] 27)).grownBy (w8.alloc (.cells #[.slice none 0 0, .slice none 0 0] 27)) none) := (grown_trans G7.out (grown_trans hg8 (World.grownBy_alloc _ _ _))); have HC3 : Hid (∀ k, k + 1 = N → Calls Try.prog 16 #[.slice (some ⟨q, 0, none⟩) k cp] (w8.alloc (.cells #[.slice none 0 0, .slice none 0 0] 27)) fun e w' => k + 1 = N ∧ ∃ a c, e = .returned (.slice a k c) ∧ OwnL w' (w8.alloc (.cells #[.slice none 0 0, .slice none 0 0] 27)).heap.size (.slice a k c) (p.dl.en.take k) ∧ (w8.alloc (.cells #[.slice none 0 0, .slice none 0 0] 27)).grownBy w' none) := (fun k hk => (HCB.out (w8.alloc (.cells #[.slice none 0 0, .slice none 0 0] 27)) k (grown_trans G35.out G8.out) (by omega)).mono (fun e w' h => ⟨hk, h⟩)); clear hg8 HD2)
      | (go_at_call 16; refine (HC3.out _ (by omega)).mono ?_; rintro e w9 ⟨hk9, a9, c9, rfl, ho9, hg9⟩; have G9 : Hid ((w5.alloc (.cells #[.slice t1 p.types.length j1, .slice t2 p.funcs.length j2] 27)).grownBy w9 none) := (grown_trans G8.out hg9); have hd3 := decode_cut (x := p) ho9.lf.1 (cut_lt (by rw [HM.out]; omega)) HMy.out HST.out HZ.out.1 HZ.out.2; rw [← ho9.lf.2] at hd3; have HD3 : Hid (Calls Try.prog 17 #[.slice a9 (N - 1) c9] w9 fun e w' => e = .returned (.tuple #[.agg #[.slice none 0 0, .slice none 0 0], .int .i64 80]) ∧ w9.grownBy w' none) := hd3; clear hd3 hk9; clear ho9 hg9 HC3)
      | (go_at_call 17; refine HD3.out.mono ?_; rintro e w10 ⟨rfl, hg10⟩; have G10 : Hid ((w5.alloc (.cells #[.slice t1 p.types.length j1, .slice t2 p.funcs.length j2] 27)).grownBy (w10.alloc (.cells #[.slice none 0 0, .slice none 0 0] 27)) none) := (grown_trans G9.out (grown_trans hg10 (World.grownBy_alloc _ _ _))); clear hg10 HD3))
    have GW : Hid (wr.grownBy (w10.alloc (.cells #[.slice none 0 0, .slice none 0 0] 27)) none) := grown_trans G1.out (grown_trans G2.out (grown_trans G3.out (grown_trans G35.out G10.out)))
    have HX : Hid ((w5.alloc (.cells #[.slice t1 p.types.length j1, .slice t2 p.funcs.length j2] 27)).grownBy (w10.alloc (.cells #[.slice none 0 0, .slice none 0 0] 27)) none) := G10.out
    clear m0 m1 c0 c1
    generalize (w10.alloc (.cells #[.slice none 0 0, .slice none 0 0] 27)) = wz at *
    have HCW : Hid (∀ W, wz.grownBy W none → W.cell? ⟨b, o + k * 2, none⟩ = some (.slice a1 p.types.length k1) ∧ W.cell? ⟨b, o + k * 2 + 1, none⟩ = some (.slice a2 p.funcs.length k2) ∧ W.cell? ⟨w5.heap.size, 0, none⟩ = some (.slice t1 p.types.length j1) ∧ W.cell? ⟨w5.heap.size, 1, none⟩ = some (.slice t2 p.funcs.length j2)) := fun W g => by
      obtain ⟨z0, z1, _⟩ := HC0.out W (grown_trans GW.out g)
      have gg := grown_trans HX.out g
      exact ⟨z0, z1, gg.cell (rcell P5.out 0) (by simp), gg.cell (rcell P5.out 1) (by simp)⟩
    have HEP : Hid (∀ W, wz.grownBy W none → Calls Try.prog 13 #[.agg #[.slice t1 p.types.length j1, .slice t2 p.funcs.length j2], .agg #[.slice a1 p.types.length k1, .slice a2 p.funcs.length k2]] W fun e w' => e = .returned (.bool true) ∧ W.grownBy w' none) := fun W g => by
      obtain ⟨_, _, hp⟩ := HC0.out W (grown_trans GW.out g)
      obtain ⟨t1, t2⟩ := T5.out W (grown_trans (World.grownBy_alloc _ _ _) (grown_trans HX.out g))
      exact eqProgram_true t1 hp.t t2 hp.f
    refine region_gd (fun w w' => w.grownBy w' none) (fun h1 h2 => grown_trans h1 h2) (fun w => World.grownBy.refl _ _) 21 (psiL [eqV (.int .i64 0), eqV (.int .i64 0), eqV (.bool false), eqV (.bool false), eqV (.agg #[.slice t1 p.types.length j1, .slice t2 p.funcs.length j2]), eqV (.slice (some ⟨b, o, none⟩) l.length cap), eqV (.int .i64 (k : Int)), eqV (.pointer (some ⟨b, o + k * 2, none⟩)), eqV (.agg #[.slice a1 p.types.length k1, .slice a2 p.funcs.length k2]), eqV (.bool true), eqV (.bool false), eqV (.bool false), eqV (.bool false), eqV (.int .i64 84), eqV (.int .i64 84), eqV (.bool false), eqV (.bool false), eqV (.bool false), eqV (.int .i64 80), eqV (.int .i64 80), eqV (.bool false)]) (by kernel_rfl) (by kernel_rfl) (by kernel_rfl) (by kernel_rfl) (psiL_hst (by repeat (first | exact stab_nil | refine stab_cons ?_ ?_ | exact stab_eq _))) ?_ ?_
    · simp only [List.take_succ_cons, List.take_zero]
      refine ⟨?_, ?_, ?_, ?_, ?_, ?_, ?_, ?_, ?_, ?_, ?_, ?_, ?_, ?_, ?_, ?_, ?_, ?_, ?_, ?_, ?_, trivial⟩
      · intro VV W0 AA g hV hs hz
        refine outG_yes (by simp [wantedV]) ?_
        have e07 := hz 7 (.int .i64 0) (by kernel_rfl) rfl
        clear hV hs hz
        refine outR_val (by kernel_rfl) (v := .int .i64 0) (w' := W0) ?_ (World.grownBy.refl _ _) rfl
        simp [go_sem, e07]
      · intro VV W0 AA g hV hs hz
        refine outG_yes (by simp [wantedV]) ?_
        have gD : wz.grownBy W0 none := grown_trans (grown_drew (World.grownBy.refl _ none)) g
        have q0 : VV 0 = .int .i64 0 := hV 0 (by kernel_rfl)
        have e0 := hs 67 0 (by kernel_rfl) (by kernel_rfl)
        clear hV hs hz
        refine outR_call (by kernel_rfl) (f := 10) ?_ ((num8 _ _).mono fun e w2 ⟨he, hw⟩ => ⟨_, he, by rw [hw]; exact World.grownBy.refl _ _, rfl⟩)
        simp [go_sem, q0, e0]
      · intro VV W0 AA g hV hs hz
        refine outG_yes (by simp [wantedV]) ?_
        have q1 : VV 1 = .int .i64 0 := hV 1 (by kernel_rfl)
        have e1 := hs 68 1 (by kernel_rfl) (by kernel_rfl)
        clear hV hs hz
        refine outR_val (by kernel_rfl) (v := .bool false) (w' := W0) ?_ (World.grownBy.refl _ _) rfl
        simp [go_sem, q1, e1]
      · intro VV W0 AA g hV hs hz
        refine outG_yes (by simp [wantedV]) ?_
        have q2 : VV 2 = .bool false := hV 2 (by kernel_rfl)
        have e2 := hs 69 2 (by kernel_rfl) (by kernel_rfl)
        clear hV hs hz
        refine outR_val (by kernel_rfl) (v := .bool false) (w' := W0) ?_ (World.grownBy.refl _ _) rfl
        simp [go_sem, q2, e2]
      · intro VV W0 AA g hV hs hz
        have qg : VV 3 = .bool false := hV 3 (by kernel_rfl)
        refine outG_yes (by simp [wantedV, boolOf, qg]) ?_
        have gD : wz.grownBy W0 none := grown_trans (grown_drew (World.grownBy.refl _ none)) g
        have e06 := hz 6 (.pointer (some ⟨w5.heap.size, 0, none⟩)) (by kernel_rfl) rfl
        have x0 := (HCW.out W0 gD).2.2.1
        have x1 := (HCW.out W0 gD).2.2.2
        clear hV hs hz qg
        refine outR_val (by kernel_rfl) (v := .agg #[.slice t1 p.types.length j1, .slice t2 p.funcs.length j2]) (w' := W0) ?_ (World.grownBy.refl _ _) rfl
        simp [go_sem, e06, x0, x1]
      · intro VV W0 AA g hV hs hz
        have qg : VV 3 = .bool false := hV 3 (by kernel_rfl)
        refine outG_yes (by simp [wantedV, boolOf, qg]) ?_
        have e00 := hz 0 (.slice (some ⟨b, o, none⟩) l.length cap) (by kernel_rfl) rfl
        clear hV hs hz qg
        refine outR_val (by kernel_rfl) (v := .slice (some ⟨b, o, none⟩) l.length cap) (w' := W0) ?_ (World.grownBy.refl _ _) rfl
        simp [go_sem, e00]
      · intro VV W0 AA g hV hs hz
        have qg : VV 3 = .bool false := hV 3 (by kernel_rfl)
        refine outG_yes (by simp [wantedV, boolOf, qg]) ?_
        have e03 := hz 3 (.int .i64 (k : Int)) (by kernel_rfl) rfl
        clear hV hs hz qg
        refine outR_val (by kernel_rfl) (v := .int .i64 (k : Int)) (w' := W0) ?_ (World.grownBy.refl _ _) rfl
        simp [go_sem, e03]
      · intro VV W0 AA g hV hs hz
        have qg : VV 3 = .bool false := hV 3 (by kernel_rfl)
        refine outG_yes (by simp [wantedV, boolOf, qg]) ?_
        have q5 : VV 5 = .slice (some ⟨b, o, none⟩) l.length cap := hV 5 (by kernel_rfl)
        have e5 := hs 72 5 (by kernel_rfl) (by kernel_rfl)
        have q6 : VV 6 = .int .i64 (k : Int) := hV 6 (by kernel_rfl)
        have e6 := hs 73 6 (by kernel_rfl) (by kernel_rfl)
        clear hV hs hz qg
        refine outR_val (by kernel_rfl) (v := .pointer (some ⟨b, o + k * 2, none⟩)) (w' := W0) ?_ (World.grownBy.refl _ _) rfl
        simp [go_sem, q5, e5, q6, e6, hkn']
      · intro VV W0 AA g hV hs hz
        have qg : VV 3 = .bool false := hV 3 (by kernel_rfl)
        refine outG_yes (by simp [wantedV, boolOf, qg]) ?_
        have gD : wz.grownBy W0 none := grown_trans (grown_drew (World.grownBy.refl _ none)) g
        have q7 : VV 7 = .pointer (some ⟨b, o + k * 2, none⟩) := hV 7 (by kernel_rfl)
        have e7 := hs 74 7 (by kernel_rfl) (by kernel_rfl)
        have x0 := (HCW.out W0 gD).1
        have x1 := (HCW.out W0 gD).2.1
        clear hV hs hz qg
        refine outR_val (by kernel_rfl) (v := .agg #[.slice a1 p.types.length k1, .slice a2 p.funcs.length k2]) (w' := W0) ?_ (World.grownBy.refl _ _) rfl
        simp [go_sem, q7, e7, x0, x1]
      · intro VV W0 AA g hV hs hz
        have qg : VV 3 = .bool false := hV 3 (by kernel_rfl)
        refine outG_yes (by simp [wantedV, boolOf, qg]) ?_
        have gD : wz.grownBy W0 none := grown_trans (grown_drew (World.grownBy.refl _ none)) g
        have q4 : VV 4 = .agg #[.slice t1 p.types.length j1, .slice t2 p.funcs.length j2] := hV 4 (by kernel_rfl)
        have e4 := hs 71 4 (by kernel_rfl) (by kernel_rfl)
        have q8 : VV 8 = .agg #[.slice a1 p.types.length k1, .slice a2 p.funcs.length k2] := hV 8 (by kernel_rfl)
        have e8 := hs 75 8 (by kernel_rfl) (by kernel_rfl)
        clear hV hs hz qg
        refine outR_call (by kernel_rfl) (f := 13) ?_ ((HEP.out W0 gD).mono fun e w2 ⟨he, hg⟩ => ⟨_, he, hg, rfl⟩)
        simp [go_sem, q4, e4, q8, e8]
      · intro VV W0 AA g hV hs hz
        have qg : VV 3 = .bool false := hV 3 (by kernel_rfl)
        refine outG_yes (by simp [wantedV, boolOf, qg]) ?_
        have q9 : VV 9 = .bool true := hV 9 (by kernel_rfl)
        have e9 := hs 76 9 (by kernel_rfl) (by kernel_rfl)
        clear hV hs hz qg
        refine outR_val (by kernel_rfl) (v := .bool false) (w' := W0) ?_ (World.grownBy.refl _ _) rfl
        simp [go_sem, q9, e9]
      · intro VV W0 AA g hV hs hz
        refine outG_yes (by simp [wantedV]) ?_
        have q3 : VV 3 = .bool false := hV 3 (by kernel_rfl)
        have e3 := hs 70 3 (by kernel_rfl) (by kernel_rfl)
        have q10 : VV 10 = .bool false := hV 10 (by kernel_rfl)
        have e10 := hs 77 10 (by kernel_rfl) (by kernel_rfl)
        clear hV hs hz
        refine outR_val (by kernel_rfl) (v := .bool false) (w' := W0) ?_ (World.grownBy.refl _ _) rfl
        simp [go_sem, q3, e3, q10, e10]
      · intro VV W0 AA g hV hs hz
        refine outG_yes (by simp [wantedV]) ?_
        have q11 : VV 11 = .bool false := hV 11 (by kernel_rfl)
        have e11 := hs 78 11 (by kernel_rfl) (by kernel_rfl)
        clear hV hs hz
        refine outR_val (by kernel_rfl) (v := .bool false) (w' := W0) ?_ (World.grownBy.refl _ _) rfl
        simp [go_sem, q11, e11]
      · intro VV W0 AA g hV hs hz
        have qg : VV 12 = .bool false := hV 12 (by kernel_rfl)
        refine outG_yes (by simp [wantedV, boolOf, qg]) ?_
        have e09 := hz 9 (.int .i64 84) (by kernel_rfl) rfl
        clear hV hs hz qg
        refine outR_val (by kernel_rfl) (v := .int .i64 84) (w' := W0) ?_ (World.grownBy.refl _ _) rfl
        simp [go_sem, e09]
      · intro VV W0 AA g hV hs hz
        have qg : VV 12 = .bool false := hV 12 (by kernel_rfl)
        refine outG_yes (by simp [wantedV, boolOf, qg]) ?_
        have gD : wz.grownBy W0 none := grown_trans (grown_drew (World.grownBy.refl _ none)) g
        have q13 : VV 13 = .int .i64 84 := hV 13 (by kernel_rfl)
        have e13 := hs 80 13 (by kernel_rfl) (by kernel_rfl)
        clear hV hs hz qg
        refine outR_call (by kernel_rfl) (f := 10) ?_ ((num8 _ _).mono fun e w2 ⟨he, hw⟩ => ⟨_, he, by rw [hw]; exact World.grownBy.refl _ _, rfl⟩)
        simp [go_sem, q13, e13]
      · intro VV W0 AA g hV hs hz
        have qg : VV 12 = .bool false := hV 12 (by kernel_rfl)
        refine outG_yes (by simp [wantedV, boolOf, qg]) ?_
        have q14 : VV 14 = .int .i64 84 := hV 14 (by kernel_rfl)
        have e14 := hs 81 14 (by kernel_rfl) (by kernel_rfl)
        clear hV hs hz qg
        refine outR_val (by kernel_rfl) (v := .bool false) (w' := W0) ?_ (World.grownBy.refl _ _) rfl
        simp [go_sem, q14, e14]
      · intro VV W0 AA g hV hs hz
        refine outG_yes (by simp [wantedV]) ?_
        have q12 : VV 12 = .bool false := hV 12 (by kernel_rfl)
        have e12 := hs 79 12 (by kernel_rfl) (by kernel_rfl)
        have q15 : VV 15 = .bool false := hV 15 (by kernel_rfl)
        have e15 := hs 82 15 (by kernel_rfl) (by kernel_rfl)
        clear hV hs hz
        refine outR_val (by kernel_rfl) (v := .bool false) (w' := W0) ?_ (World.grownBy.refl _ _) rfl
        simp [go_sem, q12, e12, q15, e15]
      · intro VV W0 AA g hV hs hz
        refine outG_yes (by simp [wantedV]) ?_
        have q16 : VV 16 = .bool false := hV 16 (by kernel_rfl)
        have e16 := hs 83 16 (by kernel_rfl) (by kernel_rfl)
        clear hV hs hz
        refine outR_val (by kernel_rfl) (v := .bool false) (w' := W0) ?_ (World.grownBy.refl _ _) rfl
        simp [go_sem, q16, e16]
      · intro VV W0 AA g hV hs hz
        have qg : VV 17 = .bool false := hV 17 (by kernel_rfl)
        refine outG_yes (by simp [wantedV, boolOf, qg]) ?_
        have e011 := hz 11 (.int .i64 80) (by kernel_rfl) rfl
        clear hV hs hz qg
        refine outR_val (by kernel_rfl) (v := .int .i64 80) (w' := W0) ?_ (World.grownBy.refl _ _) rfl
        simp [go_sem, e011]
      · intro VV W0 AA g hV hs hz
        have qg : VV 17 = .bool false := hV 17 (by kernel_rfl)
        refine outG_yes (by simp [wantedV, boolOf, qg]) ?_
        have gD : wz.grownBy W0 none := grown_trans (grown_drew (World.grownBy.refl _ none)) g
        have q18 : VV 18 = .int .i64 80 := hV 18 (by kernel_rfl)
        have e18 := hs 85 18 (by kernel_rfl) (by kernel_rfl)
        clear hV hs hz qg
        refine outR_call (by kernel_rfl) (f := 10) ?_ ((num8 _ _).mono fun e w2 ⟨he, hw⟩ => ⟨_, he, by rw [hw]; exact World.grownBy.refl _ _, rfl⟩)
        simp [go_sem, q18, e18]
      · intro VV W0 AA g hV hs hz
        have qg : VV 17 = .bool false := hV 17 (by kernel_rfl)
        refine outG_yes (by simp [wantedV, boolOf, qg]) ?_
        have q19 : VV 19 = .int .i64 80 := hV 19 (by kernel_rfl)
        have e19 := hs 86 19 (by kernel_rfl) (by kernel_rfl)
        clear hV hs hz qg
        refine outR_val (by kernel_rfl) (v := .bool false) (w' := W0) ?_ (World.grownBy.refl _ _) rfl
        simp [go_sem, q19, e19]
    · intro VV W0 g hV
      have gD : wz.grownBy W0 none := grown_trans (grown_drew (World.grownBy.refl _ none)) g
      have h0 : VV 0 = .int .i64 0 := hV 0 (by decide)
      have h1 : VV 1 = .int .i64 0 := hV 1 (by decide)
      have h2 : VV 2 = .bool false := hV 2 (by decide)
      have h3 : VV 3 = .bool false := hV 3 (by decide)
      have h4 : VV 4 = .agg #[.slice t1 p.types.length j1, .slice t2 p.funcs.length j2] := hV 4 (by decide)
      have h5 : VV 5 = .slice (some ⟨b, o, none⟩) l.length cap := hV 5 (by decide)
      have h6 : VV 6 = .int .i64 (k : Int) := hV 6 (by decide)
      have h7 : VV 7 = .pointer (some ⟨b, o + k * 2, none⟩) := hV 7 (by decide)
      have h8 : VV 8 = .agg #[.slice a1 p.types.length k1, .slice a2 p.funcs.length k2] := hV 8 (by decide)
      have h9 : VV 9 = .bool true := hV 9 (by decide)
      have h10 : VV 10 = .bool false := hV 10 (by decide)
      have h11 : VV 11 = .bool false := hV 11 (by decide)
      have h12 : VV 12 = .bool false := hV 12 (by decide)
      have h13 : VV 13 = .int .i64 84 := hV 13 (by decide)
      have h14 : VV 14 = .int .i64 84 := hV 14 (by decide)
      have h15 : VV 15 = .bool false := hV 15 (by decide)
      have h16 : VV 16 = .bool false := hV 16 (by decide)
      have h17 : VV 17 = .bool false := hV 17 (by decide)
      have h18 : VV 18 = .int .i64 80 := hV 18 (by decide)
      have h19 : VV 19 = .int .i64 80 := hV 19 (by decide)
      have h20 : VV 20 = .bool false := hV 20 (by decide)
      simp [frV, dstOf, Act.put, h0, h1, h2, h3, h4, h5, h6, h7, h8, h9, h10, h11, h12, h13, h14, h15, h16, h17, h18, h19, h20]
      clear h0 h1 h2 h3 h4 h5 h6 h7 h8 h9 h10 h11 h12 h13 h14 h15 h16 h17 h18 h19 h20 hV g
      have GR : Hid (wz.grownBy W0 none) := gD
      clear gD
      have GE : Hid (w.grownBy wz none) := grown_trans HG.out GW.out
      go_wp2
      go_roundw
      case rel => exact ⟨k + 1, by go_num, by omega, by omega, grown_trans GE.out GR.out⟩
      case measure => simp [intOf]; omega
end Go.Proofs.Ytljdjkiejppenaa
