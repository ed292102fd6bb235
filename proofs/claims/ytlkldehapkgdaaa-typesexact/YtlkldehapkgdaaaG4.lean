/- Contracts and plain facts that the walks share, text by text: TyEq, TyLo, TyRw, TySz, TyEx. -/
import Derived.Test.YtlkldehapkgdaaaG3
/- Equal numbers, types; numbers spoiled. -/
namespace Go.Proofs.Ytlkldehapkgdaaa
open Go.RowKit
set_option linter.unusedVariables false

set_option maxRecDepth 100000 in
set_option maxHeartbeats 4000000 in
theorem eqNums_true {N N' : Nat} {w : World} {a a' : Option Addr} {n c c' : Nat} {M M' : Nat → Int} (h : NumIn N w a n c M) (h' : NumIn N' w a' n c' M') (hM : ∀ i, i < n → M i = M' i) :
    Calls Try.prog 25 #[.slice a n c, .slice a' n c'] w fun e w' => e = .returned (.bool true) ∧ w.grownBy w' none := by
  have hle := h.le
  have hmx := h.max
  have hle' := h'.le
  have hmx' := h'.max
  unfold maxLen at hmx hmx'
  have H1 : Hid (NumIn N w a n c M) := h
  have H2 : Hid (NumIn N' w a' n c' M') := h'
  have HM : Hid (∀ i, i < n → M i = M' i) := hM
  clear h h' hM
  go_enter Try.func25, Try.ntmps25
  go_wp2_with fail
  go_loopw [5] (fun ix wr => ∃ k : Nat, ix = .int .i64 k ∧ k ≤ n ∧ w.grownBy wr none) (fun ix _ => n - (intOf ix).toNat)
  case atStart => exact ⟨0, rfl, Nat.zero_le _, World.grownBy.refl _ _⟩
  case round =>
    obtain ⟨k, rfl, hk, hg⟩ := hrel
    have HG : Hid (w.grownBy wr none) := hg
    by_cases hkn : k < n
    · have hkn' : (k : Int) < n := by omega
      obtain ⟨b1, o1, rfl, c1⟩ := (H1.out.grow hg).val hkn
      obtain ⟨b2, o2, rfl, c2⟩ := (H2.out.grow hg).val hkn
      rw [← HM.out k hkn] at c2
      clear hg
      generalize M k = y at *
      go_wp2_with fail
      go_quiet (fail)
      go_wp2
      go_roundw
      case rel => exact ⟨k + 1, by go_num, by omega, grown_trans HG.out (grown_drewN (World.grownBy.refl _ _) _)⟩
      case measure => simp [intOf]; omega
    · obtain rfl : k = n := by omega
      clear hg
      go_wp2
      go_ret
      exact ⟨rfl, HG.out⟩
set_option maxRecDepth 100000 in
set_option maxHeartbeats 4000000 in
theorem eqType_true {N N' : Nat} {w : World} {x : Ty.TyV} {fa fa' : Option Addr} {fc fc' : Nat} (h : NumIn N w fa x.nf fc x.F) (h' : NumIn N' w fa' x.nf fc' x.F) :
    Calls Try.prog 29 #[.agg #[.int .i64 x.kind, .int .i64 x.elem, .int .i64 x.n, .slice fa x.nf fc], .agg #[.int .i64 x.kind, .int .i64 x.elem, .int .i64 x.n, .slice fa' x.nf fc']] w fun e w' => e = .returned (.bool true) ∧ w.grownBy w' none := by
  have hle := h.le
  have hle' := h'.le
  obtain ⟨W2, hW2⟩ : ∃ W2, W2 = (w.alloc (.cells #[.int .i64 x.kind, .int .i64 x.elem, .int .i64 x.n, .slice fa x.nf fc] 41)).alloc (.cells #[.int .i64 x.kind, .int .i64 x.elem, .int .i64 x.n, .slice fa' x.nf fc'] 41) := ⟨_, rfl⟩
  have hg2 : w.grownBy W2 none := by rw [hW2]; exact ga (World.grownBy_alloc _ _ _) _
  have HC : Hid (Calls Try.prog 25 #[.slice fa x.nf fc, .slice fa' x.nf fc'] W2 fun e w' => e = .returned (.bool true) ∧ W2.grownBy w' none) := eqNums_true (h.grow hg2) (h'.grow hg2) (fun _ _ => rfl)
  have HG2 : Hid (w.grownBy W2 none) := hg2
  have HW2 : Hid (W2 = _) := hW2
  clear h h' hg2 hW2
  go_enter Try.func29, Try.ntmps29
  go_wp2_with (go_at_call 25; rw [← HW2.out]; refine HC.out.mono ?_; rintro e w3 ⟨rfl, hg3⟩)
  go_ret
  exact ⟨rfl, grown_trans HG2.out hg3⟩
set_option maxRecDepth 100000 in
set_option maxHeartbeats 8000000 in
theorem eqTypes_true {N N' : Nat} {w : World} {a a' : Option Addr} {n c c' : Nat} {T : Nat → Ty.TyV} (h : TysIn N w a n c T) (h' : TysIn N' w a' n c' T) :
    Calls Try.prog 12 #[.slice a n c, .slice a' n c'] w fun e w' => e = .returned (.bool true) ∧ w.grownBy w' none := by
  have hle := h.le
  have hmx := h.max
  have hle' := h'.le
  have hmx' := h'.max
  unfold maxLen at hmx hmx'
  have H1 : Hid (TysIn N w a n c T) := h
  have H2 : Hid (TysIn N' w a' n c' T) := h'
  clear h h'
  go_enter Try.func12, Try.ntmps12
  go_wp2_with fail
  go_loopw [5] (fun ix wr => ∃ k : Nat, ix = .int .i64 k ∧ k ≤ n ∧ w.grownBy wr none) (fun ix _ => n - (intOf ix).toNat)
  case atStart => exact ⟨0, rfl, Nat.zero_le _, World.grownBy.refl _ _⟩
  case round =>
    obtain ⟨k, rfl, hk, hg⟩ := hrel
    have HG : Hid (w.grownBy wr none) := hg
    by_cases hkn : k < n
    · have hkn' : (k : Int) < n := by omega
      obtain ⟨b1, o1, fa1, fc1, rfl, hb1, t1⟩ := (H1.out.grow hg).at hkn
      obtain ⟨b2, o2, fa2, fc2, rfl, hb2, t2⟩ := (H2.out.grow hg).at hkn
      have HT1 : Hid (TyC N wr b1 (o1 + k * 4) (T k) fa1 fc1) := t1
      have HT2 : Hid (TyC N' wr b2 (o2 + k * 4) (T k) fa2 fc2) := t2
      have HC : Hid (∀ y : Gw wr, Calls Try.prog 29 #[.agg #[.int .i64 (T k).kind, .int .i64 (T k).elem, .int .i64 (T k).n, .slice fa1 (T k).nf fc1], .agg #[.int .i64 (T k).kind, .int .i64 (T k).elem, .int .i64 (T k).n, .slice fa2 (T k).nf fc2]] y.w fun e w' => e = .returned (.bool true) ∧ y.w.grownBy w' none) := fun y => eqType_true (t1.f.grow y.h) (t2.f.grow y.h)
      clear t1 t2 hg
      generalize T k = x at *
      go_wp2_with fail
      have ne : Nonempty (Gw wr) := ⟨⟨wr, World.grownBy.refl _ _⟩⟩
      refine region_grown (by kernel_rfl) (by kernel_rfl) ?_
      have d0 := fun y : Gw wr => (HT1.out.ch (l := []) (Ch.of y.h) (by simp) (by simp)).c0
      have d1 := fun y : Gw wr => (HT1.out.ch (l := []) (Ch.of y.h) (by simp) (by simp)).c1
      have d2 := fun y : Gw wr => (HT1.out.ch (l := []) (Ch.of y.h) (by simp) (by simp)).c2
      have d3 := fun y : Gw wr => (HT1.out.ch (l := []) (Ch.of y.h) (by simp) (by simp)).c3
      have f0 := fun y : Gw wr => (HT2.out.ch (l := []) (Ch.of y.h) (by simp) (by simp)).c0
      have f1 := fun y : Gw wr => (HT2.out.ch (l := []) (Ch.of y.h) (by simp) (by simp)).c1
      have f2 := fun y : Gw wr => (HT2.out.ch (l := []) (Ch.of y.h) (by simp) (by simp)).c2
      have f3 := fun y : Gw wr => (HT2.out.ch (l := []) (Ch.of y.h) (by simp) (by simp)).c3
      repeat (go_big_quiet_step (first | exact rfl | (go_at_call 29; exact Gw.call (HC.out _))))
      refine wpQuiet_nil ?_
      rintro W5 ⟨y5, hy5⟩
      have g5 : wr.grownBy W5 none := by rw [hy5]; exact y5.h
      clear hy5 y5 d0 d1 d2 d3 f0 f1 f2 f3 ne
      go_wp2
      go_roundw
      case rel => exact ⟨k + 1, by go_num, by omega, grown_trans HG.out g5⟩
      case measure => simp [intOf]; omega
    · obtain rfl : k = n := by omega
      clear hg
      go_wp2
      go_ret
      exact ⟨rfl, HG.out⟩
set_option maxRecDepth 100000 in
set_option maxHeartbeats 4000000 in
theorem spoilZ {w : World} {base : Nat} {v : Value} {l : List Int} (h : OwnZ w base v l) (hl : l.length ≤ 65536) (hb : base ≤ w.heap.size) :
    Calls Try.prog 26 #[v] w fun e w' => e = .returned (.tuple #[]) ∧ w.grownBy w' v.ownBlock := by
  obtain ⟨i, hi, hz0, hz1, hz2⟩ := info_parts info_int
  rcases h.2 with ⟨rfl, h0⟩ | ⟨b, cap, cur, rfl, hbb, _⟩
  · go_enter Try.func26, Try.ntmps26
    go_wp2_with fail
    go_loopw [2] (fun s wr => s = .int .i64 0 ∧ wr = w) (fun s _ => 0)
    case atStart => exact ⟨rfl, by first | rfl | trivial⟩
    case round =>
      obtain ⟨rfl, hw⟩ := hrel
      subst hw
      go_wp2_with (at_builtin; refine wp_appZ1 rfl _ _ rfl wr.heap.size (.slice none 0 0) [] 5 rfl (ownZ_nil _ _) rfl rfl (by simp) (Nat.le_refl _) ?_; intro v' w2 ho2 hg2)
      go_end0
      exact ⟨rfl, hg2⟩
  · have hl' : (l.length : Int) ≤ 65536 := by omega
    have hN : OwnN w base (.slice (some ⟨b, 0, none⟩) l.length cap) l.length (fun i => l.getD i 0) := h.n
    obtain ⟨n, hn⟩ : ∃ n, n = l.length := ⟨_, rfl⟩
    rw [← hn] at hN hl' ⊢
    have hn6 : n ≤ 65536 := by omega
    have HN : Hid (OwnN w base (.slice (some ⟨b, 0, none⟩) n cap) n (fun i => l.getD i 0)) := hN
    clear h hn hN hl
    go_enter Try.func26, Try.ntmps26
    go_wp2_with fail
    go_loopw [2] (fun s wr => ∃ k : Nat, k ≤ n ∧ s = .int .i64 k ∧ (∃ g, OwnN wr base (.slice (some ⟨b, 0, none⟩) n cap) n g) ∧ w.grownBy wr (some b)) (fun s _ => n - (intOf s).toNat)
    case atStart => exact ⟨0, Nat.zero_le _, rfl, ⟨_, HN.out⟩, World.grownBy.refl _ _⟩
    case round =>
      obtain ⟨k, hk, rfl, ⟨g, ho⟩, hg⟩ := hrel
      have HG : Hid (w.grownBy wr (some b)) := hg
      have HO : Hid (OwnN wr base (.slice (some ⟨b, 0, none⟩) n cap) n g) := ho
      have hsz := hg.size
      by_cases hkn : k < n
      · have hkn' : (k : Int) < n := by omega
        have c1 := ho.cell hkn
        have f1 := ho.frozen k
        clear ho hg
        go_wp2
        go_roundw
        case rel => exact ⟨k + 1, by omega, by go_num, ⟨_, HO.out.set hkn (-99)⟩, grown_trans HG.out (grown_set _ _ _ _)⟩
        case measure => simp [intOf]; omega
      · obtain rfl : k = n := by omega
        clear ho hg
        have hz : OwnZ wr base (.slice (some ⟨b, 0, none⟩) k cap) ((List.range k).map g) := HO.out.z
        have HZ : Hid (OwnZ wr base (.slice (some ⟨b, 0, none⟩) k cap) ((List.range k).map g)) := hz
        clear hz
        go_wp2_with (at_builtin; refine wp_appZ1 rfl _ _ rfl base (.slice (some ⟨b, 0, none⟩) k cap) ((List.range k).map g) 5 rfl HZ.out rfl rfl (by simp; omega) (by omega) ?_; intro v' w2 ho2 hg2)
        go_end0
        exact ⟨rfl, grown_trans HG.out hg2⟩
end Go.Proofs.Ytlkldehapkgdaaa

/- What the law asks of a field's place. -/
namespace Go.Proofs.Ytlkldehapkgdaaa
open Go.RowKit
set_option linter.unusedVariables false

set_option maxRecDepth 100000 in
set_option maxHeartbeats 8000000 in
theorem loffset_any {N : Nat} {w : World} {T : Nat → Ty.TyV} {n : Nat} {a : Option Addr} {c : Nat} (h : TysIn N w a n c T) (hN : N ≤ w.heap.size) (i f : Int) :
    Calls Try.prog 11 #[.slice a n c, .int .i64 i, .int .i64 f, .int .i64 (Ty.chk T n)] w fun e w' => e = .returned (.bool true) ∧ w.grownBy w' none := by
  have HN : Hid (∀ x W, Calls Try.prog 8 #[.int .i64 x] W fun e w' => e = .returned (.int .i64 x) ∧ w' = W) := num7_any
  have hle := h.le
  have hmx := h.max
  unfold maxLen at hmx
  by_cases hc : Ty.chk T n = 0
  · rw [hc]
    cases hm : Ty.nmB n i
    · have e : Ty.cod T n i = 70 := by unfold Ty.cod; rw [if_pos hc, if_neg (by simp [hm])]
      have hno := offset7_no (f := f) h hN (i := i) (by rw [e]; decide)
      rw [e] at hno
      have HC : Hid (Calls Try.prog 27 #[.slice a n c, .int .i64 i, .int .i64 f] w fun e w' => e = .returned (.tuple #[.int .i64 0, .int .i64 70]) ∧ w.grownBy w' none) := hno
      have HI : Hid (∀ W, Calls Try.prog 23 #[.slice a n c, .int .i64 i] W fun e w' => e = .returned (.bool false) ∧ w' = W) := fun W => by rw [← hm]; exact ris7_any _ _ _ _ _
      clear h hc hm hno e
      go_enter Try.func11, Try.ntmps11
      go_wp2_with (first
        | (go_at_call 27; refine HC.out.mono ?_; rintro e w3 ⟨rfl, hg3⟩)
        | (go_at_call 23; refine (HI.out _).mono ?_; rintro e w4 ⟨rfl, rfl⟩)
        | (go_at_call 8; refine (HN.out _ _).mono ?_; rintro e w6 ⟨rfl, rfl⟩))
      go_ret
      exact ⟨rfl, hg3⟩
    · obtain ⟨i0, i1⟩ := Ty.nmB_iff.1 hm
      obtain ⟨j, rfl⟩ : ∃ j : Nat, i = j := ⟨i.toNat, by omega⟩
      have hj : j < n := by omega
      have HI : Hid (∀ W, Calls Try.prog 23 #[.slice a n c, .int .i64 j] W fun e w' => e = .returned (.bool true) ∧ w' = W) := fun W => by rw [← hm]; exact ris7_any _ _ _ _ _
      have hof := offset7_ok h hN hc hj f
      have hok := ((Ty.chk_ok hc).2 j hj).1
      obtain ⟨b, off, fa, fc, rfl, hb, hty⟩ := h.at hj
      have HTy : Hid (TyC N w b (off + j * 4) (T j) fa fc) := hty
      have hfl := hty.f.le
      have hfm := hty.f.max
      unfold maxLen at hfm
      unfold Ty.offV Ty.offE at hof
      by_cases hk : (T j).kind = 13
      · cases hnf : Ty.nmB (T j).nf f
        · rw [if_neg (by simp [hnf]), if_neg (by simp [hnf])] at hof
          have HC : Hid (Calls Try.prog 27 #[.slice (some ⟨b, off, none⟩) n c, .int .i64 j, .int .i64 f] w fun e w' => e = .returned (.tuple #[.int .i64 0, .int .i64 70]) ∧ w.grownBy w' none) := hof
          have hf3 : f < 0 ∨ (¬ f < 0 ∧ ((T j).nf : Int) ≤ f) := by
            by_cases h1 : 0 ≤ f ∧ f < (T j).nf
            · rw [Ty.nmB_iff.2 h1] at hnf; cases hnf
            · omega
          have HK : Hid (∀ W, w.grownBy W none → W.cell? ⟨b, off + j * 4, none⟩ = some (.int .i64 13) ∧ W.cell? ⟨b, off + j * 4 + 3, none⟩ = some (.slice fa (T j).nf fc)) := fun W hg => by
            have := HTy.out.ch (l := []) (Ch.of hg) (by simp) (by simp)
            exact ⟨by rw [← hk]; exact this.c0, this.c3⟩
          clear h hc hm hof hok hty hnf hk HTy
          generalize T j = x at *
          rcases hf3 with hf3 | ⟨hf3, hf4⟩
          all_goals (
            go_enter Try.func11, Try.ntmps11
            go_wp2_with (first
              | (go_at_call 27; refine HC.out.mono ?_; rintro e w3 ⟨rfl, hg3⟩; have HG3 : Hid (w.grownBy w3 none) := hg3; obtain ⟨d0, d3⟩ := HK.out w3 hg3; clear hg3)
              | (go_at_call 23; refine (HI.out _).mono ?_; rintro e w4 ⟨rfl, rfl⟩)
              | (go_at_call 8; refine (HN.out _ _).mono ?_; rintro e w6 ⟨rfl, rfl⟩))
            go_ret
            exact ⟨rfl, HG3.out⟩)
        · rw [if_pos hnf, if_pos hnf] at hof
          obtain ⟨f0, f1⟩ := Ty.nmB_iff.1 hnf
          obtain ⟨q, rfl⟩ : ∃ q : Nat, f = q := ⟨f.toNat, by omega⟩
          rw [Int.toNat_natCast] at hof
          have HC : Hid (Calls Try.prog 27 #[.slice (some ⟨b, off, none⟩) n c, .int .i64 j, .int .i64 q] w fun e w' => e = .returned (.tuple #[.int .i64 (Ty.bg (T j) (Ty.lie T) q), .int .i64 0]) ∧ w.grownBy w' none) := hof
          have HR : Hid (∀ W, w.grownBy W none → Calls Try.prog 28 #[.slice (some ⟨b, off, none⟩) n c, .int .i64 j, .int .i64 q] W fun e w' => e = .returned (.int .i64 (Ty.bg (T j) (Ty.lie T) q)) ∧ W.grownBy w' none) := fun W hg => rOffset_any (h.grow hg) (Nat.le_trans hN hg.size) hc hj (by omega)
          have HK : Hid (∀ W, w.grownBy W none → W.cell? ⟨b, off + j * 4, none⟩ = some (.int .i64 13) ∧ W.cell? ⟨b, off + j * 4 + 3, none⟩ = some (.slice fa (T j).nf fc)) := fun W hg => by
            have := HTy.out.ch (l := []) (Ch.of hg) (by simp) (by simp)
            exact ⟨by rw [← hk]; exact this.c0, this.c3⟩
          have hf3 : ¬ (q : Int) < 0 := by omega
          have hf4 : ¬ ((T j).nf : Int) ≤ q := by omega
          clear h hc hm hof hok hty hnf hk HTy
          generalize Ty.bg (T j) (Ty.lie T) q = G at *
          generalize T j = x at *
          go_enter Try.func11, Try.ntmps11
          go_wp2_with (first
            | (go_at_call 27; refine HC.out.mono ?_; rintro e w3 ⟨rfl, hg3⟩; have HG3 : Hid (w.grownBy w3 none) := hg3; obtain ⟨d0, d3⟩ := HK.out w3 hg3; clear hg3)
            | (go_at_call 23; refine (HI.out _).mono ?_; rintro e w4 ⟨rfl, rfl⟩)
            | (go_at_call 8; refine (HN.out _ _).mono ?_; rintro e w6 ⟨rfl, rfl⟩)
            | (go_at_call 28; refine (HR.out _ HG3.out).mono ?_; rintro e w7 ⟨rfl, hg7⟩; have HG7 : Hid (w.grownBy w7 none) := grown_trans HG3.out hg7; clear hg7))
          go_ret
          exact ⟨rfl, HG7.out⟩
      · have hz : (T j).nf = 0 := by
          rcases Ty.ok_cases hok with ⟨_, _, _, _, _, h0⟩ | ⟨h0, _⟩ | ⟨_, _, h0⟩ | ⟨_, _, _, h0⟩
          · exact h0
          · exact absurd h0 hk
          · exact h0
          · exact h0
        have hnf : Ty.nmB (T j).nf f = false := by
          cases hh : Ty.nmB (T j).nf f
          · rfl
          · have := Ty.nmB_iff.1 hh; omega
        rw [if_neg (by simp [hnf]), if_neg (by simp [hnf])] at hof
        have HC : Hid (Calls Try.prog 27 #[.slice (some ⟨b, off, none⟩) n c, .int .i64 j, .int .i64 f] w fun e w' => e = .returned (.tuple #[.int .i64 0, .int .i64 70]) ∧ w.grownBy w' none) := hof
        have HK : Hid (∀ W, w.grownBy W none → W.cell? ⟨b, off + j * 4, none⟩ = some (.int .i64 (T j).kind)) := fun W hg => (HTy.out.ch (l := []) (Ch.of hg) (by simp) (by simp)).c0
        have hk' : ((T j).kind != 13) = true := by simpa using hk
        clear h hc hm hof hok hty hnf hk hz HTy
        generalize (T j).kind = kd at *
        go_enter Try.func11, Try.ntmps11
        go_wp2_with (first
          | (go_at_call 27; refine HC.out.mono ?_; rintro e w3 ⟨rfl, hg3⟩; have HG3 : Hid (w.grownBy w3 none) := hg3; have d0 := HK.out w3 hg3; clear hg3)
          | (go_at_call 23; refine (HI.out _).mono ?_; rintro e w4 ⟨rfl, rfl⟩)
          | (go_at_call 8; refine (HN.out _ _).mono ?_; rintro e w6 ⟨rfl, rfl⟩))
        go_ret
        exact ⟨rfl, HG3.out⟩
  · have e : Ty.cod T n i = Ty.chk T n := by unfold Ty.cod; rw [if_neg hc]
    have hno := offset7_no (f := f) h hN (i := i) (by rw [e]; exact hc)
    rw [e] at hno
    have HC : Hid (Calls Try.prog 27 #[.slice a n c, .int .i64 i, .int .i64 f] w fun e w' => e = .returned (.tuple #[.int .i64 0, .int .i64 (Ty.chk T n)]) ∧ w.grownBy w' none) := hno
    have hz : (Ty.chk T n == 0) = false := by simpa using hc
    have hz' : (Ty.chk T n != 0) = true := by simpa using hc
    clear h hc e hno
    generalize Ty.chk T n = Z at *
    go_enter Try.func11, Try.ntmps11
    go_wp2_with (first
      | (go_at_call 27; refine HC.out.mono ?_; rintro e w3 ⟨rfl, hg3⟩)
      | (go_at_call 8; refine (HN.out _ _).mono ?_; rintro e w6 ⟨rfl, rfl⟩))
    go_ret
    exact ⟨rfl, hg3⟩
end Go.Proofs.Ytlkldehapkgdaaa

/- gantryref7.Words. -/
namespace Go.Proofs.Ytlkldehapkgdaaa
open Go.RowKit
set_option linter.unusedVariables false

theorem Ty.val_len {T : Nat → Ty.TyV} {n i : Nat} (hF : Ty.Fine T n (i + 1)) : Ty.valB (Ty.lie T i) = (!(Ty.lie T i).arr && decide ((Ty.w17 T i).length ≤ 16)) := by
  have h := Ty.wk_len (T := T) (n := n) (i := i) fun k hk => (hF k (by omega)).1
  unfold Ty.valB Ty.w17
  congr 1
  rw [Bool.eq_iff_iff]
  simp only [decide_eq_true_eq, List.length_take]
  omega
theorem Ty.val_w17 {T : Nat → Ty.TyV} {n i : Nat} (hF : Ty.Fine T n (i + 1)) (h : Ty.valB (Ty.lie T i) = true) : Ty.w17 T i = Ty.wk T i := by
  have hl := Ty.wk_len (T := T) (n := n) (i := i) fun k hk => (hF k (by omega)).1
  unfold Ty.valB at h
  simp only [Bool.and_eq_true, decide_eq_true_eq] at h
  exact List.take_of_length_le (by omega)
/-- what Words tells -/
def WdR (T : Nat → Ty.TyV) (i : Nat) (w : World) (e : Ending) (w' : World) : Prop :=
  w.grownBy w' none ∧ ((Ty.valB (Ty.lie T i) = false ∧ e = .returned (.tuple #[.slice none 0 0, .slice none 0 0, .bool false])) ∨ (Ty.valB (Ty.lie T i) = true ∧ ∃ ka kc oa oc, e = .returned (.tuple #[.slice ka (Ty.wk T i).length kc, .slice oa (Ty.wk T i).length oc, .bool true]) ∧ NumIn w'.heap.size w' ka (Ty.wk T i).length kc (atF (Ty.k1 (Ty.wk T i))) ∧ NumIn w'.heap.size w' oa (Ty.wk T i).length oc (atF (Ty.k2 (Ty.wk T i)))))
set_option maxRecDepth 100000 in
set_option maxHeartbeats 8000000 in
theorem rWords_any {N : Nat} {w : World} {T : Nat → Ty.TyV} {n : Nat} {a : Option Addr} {c : Nat} (h : TysIn N w a n c T) (hN : N ≤ w.heap.size) (hc : Ty.chk T n = 0) {i : Nat} (hi : i < n) :
    Calls Try.prog 24 #[.slice a n c, .int .i64 i] w fun e w' => WdR T i w e w' := by
  have hle := h.le
  have hmx := h.max
  unfold maxLen at hmx
  obtain ⟨h64, hF⟩ := Ty.chk_ok hc
  have hF1 := hF.mono (show i + 1 ≤ n from hi)
  have h2 := h.cut (show i + 1 ≤ n from hi)
  have hn' : (n : Int) ≤ 64 := by omega
  have hi' : (i : Int) < n := by omega
  have HL : Hid (Calls Try.prog 40 #[.slice a (i + 1) c] w fun e w' => ∃ v l, e = .returned v ∧ Lts w w' T (i + 1) v l) := rlots_any h2 hN (by omega) hF1 (fun j hj f hf W hg => rOffset_gen (h2.grow hg) (Nat.le_trans hN hg.size) (by omega) hF1 hj hf)
  have HV : Hid (Ty.valB (Ty.lie T i) = (!(Ty.lie T i).arr && decide ((Ty.w17 T i).length ≤ 16))) := Ty.val_len hF1
  have HV2 : Hid (Ty.valB (Ty.lie T i) = true → Ty.w17 T i = Ty.wk T i) := fun hh => Ty.val_w17 hF1 hh
  obtain ⟨b, off, fa, fc, rfl, _⟩ := h.at hi
  clear h hF hF1 h2 hc
  go_enter Try.func24, Try.ntmps24
  go_wp2_with (go_at_call 40; refine HL.out.mono ?_; rintro e w3 ⟨v, l, rfl, h3⟩; have H3 : Hid (Lts w w3 T (i + 1) v l) := h3; obtain ⟨la, lc, hv, hlc, hlm, hrow⟩ := h3.slice; obtain ⟨rb, hla, hcell⟩ := hrow i (Nat.lt_succ_self i); subst hla; subst hv; have hlen := h3.len; have hE := h3.ent i (by omega); obtain ⟨ee, hee⟩ : ∃ ee, ee = l[i]'(by omega) := ⟨_, rfl⟩; rw [← hee] at hE hcell; have HE : Hid (LtOk w3 ee (Ty.w17 T i) (Ty.lie T i).arr) := hE; have r0 : w3.cell? ⟨rb, i * 3, none⟩ = some (.slice ee.ka ee.n ee.kc) := hcell 0 (by decide); have r1 : w3.cell? ⟨rb, i * 3 + 1, none⟩ = some (.slice ee.oa ee.n ee.oc) := hcell 1 (by decide); have r2 : w3.cell? ⟨rb, i * 3 + 2, none⟩ = some (.bool ee.arr) := hcell 2 (by decide); unfold maxLen at hlm; clear h3 hrow hcell hE hee hlen)
  · refine bodyPost_ret (by simp [results, Try.results24, go_sem]; try rfl) rfl ?_
    refine ⟨grown_trans H3.out.gr (World.grownBy_alloc _ _ _), .inl ⟨?_, rfl⟩⟩
    rw [HV.out, ← HE.out.arr]
    simp [*]
  · refine bodyPost_ret (by simp [results, Try.results24, go_sem]; try rfl) rfl ?_
    refine ⟨grown_trans H3.out.gr (World.grownBy_alloc _ _ _), .inl ⟨?_, rfl⟩⟩
    rw [HV.out, ← HE.out.arr, ← HE.out.n]
    have : ¬ ee.n ≤ 16 := by omega
    simp [*]
  · have hv : Ty.valB (Ty.lie T i) = true := by
      rw [HV.out, ← HE.out.arr, ← HE.out.n]
      have : ee.n ≤ 16 := by omega
      simp [*]
    have hE := HE.out
    have hw := HV2.out hv
    rw [hw] at hE
    obtain ⟨W4, hW4⟩ : ∃ W4, W4 = w3.alloc (.cells #[.slice ee.ka ee.n ee.kc, .slice ee.oa ee.n ee.oc, .bool false] 73) := ⟨_, rfl⟩
    have g4 : w3.grownBy W4 none := by rw [hW4]; exact World.grownBy_alloc _ _ _
    have y0 : W4.cell? ⟨w3.heap.size, 0, none⟩ = some (.slice ee.ka ee.n ee.kc) := by rw [hW4]; simp
    have y1 : W4.cell? ⟨w3.heap.size, 1, none⟩ = some (.slice ee.oa ee.n ee.oc) := by rw [hW4]; simp
    rw [← hW4]
    have HE4 : Hid (LtOk W4 ee (Ty.wk T i) (Ty.lie T i).arr) := hE.grow g4
    have HG4 : Hid (w3.grownBy W4 none) := g4
    have HVt : Hid (Ty.valB (Ty.lie T i) = true) := hv
    obtain ⟨Yb, hYb⟩ : ∃ Yb, Yb = w3.heap.size := ⟨_, rfl⟩
    rw [← hYb] at y0 y1 ⊢
    clear hE hw hW4 g4 hv hYb r0 r1 r2
    go_quiet (fail)
    go_wp2
    refine bodyPost_ret (by simp [results, Try.results24, go_sem]; try rfl) rfl ?_
    have hn := HE4.out.n
    have gq : ∀ d, W4.grownBy (W4.drewN d) none := fun d => grown_drewN (World.grownBy.refl _ none) d
    refine ⟨grown_trans (grown_trans H3.out.gr HG4.out) (gq _), .inr ⟨HVt.out, ee.ka, ee.kc, ee.oa, ee.oc, ?_, ?_, ?_⟩⟩
    · rw [← hn]
    · rw [← hn]; exact (HE4.out.grow (gq _)).k
    · rw [← hn]; exact (HE4.out.grow (gq _)).o
end Go.Proofs.Ytlkldehapkgdaaa

/- What the law asks of an entry. -/
namespace Go.Proofs.Ytlkldehapkgdaaa
open Go.RowKit
set_option linter.unusedVariables false

set_option maxRecDepth 100000 in
set_option maxHeartbeats 8000000 in
theorem lsizes_no {N : Nat} {w : World} {T : Nat → Ty.TyV} {n : Nat} {a : Option Addr} {c : Nat} (h : TysIn N w a n c T) (hN : N ≤ w.heap.size) {i : Int} (hi : Ty.cod T n i ≠ 0) :
    Calls Try.prog 10 #[.slice a n c, .int .i64 i, .int .i64 (Ty.chk T n)] w fun e w' => e = .returned (.bool true) ∧ w.grownBy w' none := by
  have HN : Hid (∀ x W, Calls Try.prog 8 #[.int .i64 x] W fun e w' => e = .returned (.int .i64 x) ∧ w' = W) := num7_any
  have C1 : Hid (∀ W, w.grownBy W none → Calls Try.prog 14 #[.slice a n c, .int .i64 i] W fun e w' => e = .returned (.tuple #[.int .i64 0, .int .i64 (Ty.cod T n i)]) ∧ W.grownBy w' none) := fun W hg => size7_no (h.grow hg) (Nat.le_trans hN hg.size) hi
  have C2 : Hid (∀ W, w.grownBy W none → Calls Try.prog 15 #[.slice a n c, .int .i64 i] W fun e w' => e = .returned (.tuple #[.int .i64 0, .int .i64 (Ty.cod T n i)]) ∧ W.grownBy w' none) := fun W hg => align7_no (h.grow hg) (Nat.le_trans hN hg.size) hi
  have C3 : Hid (∀ W, w.grownBy W none → Calls Try.prog 21 #[.slice a n c, .int .i64 i] W fun e w' => e = .returned (.tuple #[.bool false, .int .i64 (Ty.cod T n i)]) ∧ W.grownBy w' none) := fun W hg => value7_no (h.grow hg) (Nat.le_trans hN hg.size) hi
  have C4 : Hid (∀ W, w.grownBy W none → Calls Try.prog 22 #[.slice a n c, .int .i64 i] W fun e w' => e = .returned (.tuple #[.slice none 0 0, .slice none 0 0, .int .i64 (Ty.cod T n i)]) ∧ W.grownBy w' none) := fun W hg => words7_no (h.grow hg) (Nat.le_trans hN hg.size) hi
  have hz : (Ty.cod T n i != 0) = true := by simpa using hi
  have HI : Hid (∀ W, Calls Try.prog 23 #[.slice a n c, .int .i64 i] W fun e w' => e = .returned (.bool (Ty.nmB n i)) ∧ w' = W) := fun W => ris7_any _ _ _ _ _
  by_cases hc : Ty.chk T n = 0
  · have e : Ty.nmB n i = false := by
      cases hh : Ty.nmB n i
      · rfl
      · exact absurd (by unfold Ty.cod; rw [if_pos hc, if_pos hh]) hi
    have e2 : Ty.cod T n i = 70 := by unfold Ty.cod; rw [if_pos hc, if_neg (by simp [e])]
    rw [hc]
    rw [e] at HI
    rw [e2] at C1 C2 C3 C4
    clear h hi hc e e2 hz
    go_enter Try.func10, Try.ntmps10
    go_wp2_with (first
      | (go_at_call 14; refine (C1.out _ (World.grownBy.refl _ _)).mono ?_; rintro e x1 ⟨rfl, g1⟩; have G1 : Hid (w.grownBy x1 none) := g1; clear g1)
      | (go_at_call 15; refine (C2.out _ G1.out).mono ?_; rintro e x2 ⟨rfl, g2⟩; have G2 : Hid (w.grownBy x2 none) := grown_trans G1.out g2; clear g2)
      | (go_at_call 21; refine (C3.out _ G2.out).mono ?_; rintro e x3 ⟨rfl, g3⟩; have G3 : Hid (w.grownBy x3 none) := grown_trans G2.out g3; clear g3)
      | (go_at_call 22; refine (C4.out _ G3.out).mono ?_; rintro e x4 ⟨rfl, g4⟩; have G4 : Hid (w.grownBy x4 none) := grown_trans G3.out g4; clear g4)
      | (go_at_call 23; refine (HI.out _).mono ?_; rintro e x5 ⟨rfl, rfl⟩)
      | (go_at_call 8; refine (HN.out _ _).mono ?_; rintro e x6 ⟨rfl, rfl⟩))
    go_ret
    exact ⟨rfl, G4.out⟩
  · have e2 : Ty.cod T n i = Ty.chk T n := by unfold Ty.cod; rw [if_neg hc]
    rw [e2] at C1 C2 C3 C4 hz
    have hz2 : (Ty.chk T n == 0) = false := by simpa using hc
    clear h hi hc e2 HI
    generalize Ty.chk T n = Z at *
    go_enter Try.func10, Try.ntmps10
    go_wp2_with (first
      | (go_at_call 14; refine (C1.out _ (World.grownBy.refl _ _)).mono ?_; rintro e x1 ⟨rfl, g1⟩; have G1 : Hid (w.grownBy x1 none) := g1; clear g1)
      | (go_at_call 15; refine (C2.out _ G1.out).mono ?_; rintro e x2 ⟨rfl, g2⟩; have G2 : Hid (w.grownBy x2 none) := grown_trans G1.out g2; clear g2)
      | (go_at_call 21; refine (C3.out _ G2.out).mono ?_; rintro e x3 ⟨rfl, g3⟩; have G3 : Hid (w.grownBy x3 none) := grown_trans G2.out g3; clear g3)
      | (go_at_call 22; refine (C4.out _ G3.out).mono ?_; rintro e x4 ⟨rfl, g4⟩; have G4 : Hid (w.grownBy x4 none) := grown_trans G3.out g4; clear g4)
      | (go_at_call 8; refine (HN.out _ _).mono ?_; rintro e x6 ⟨rfl, rfl⟩))
    go_ret
    exact ⟨rfl, G4.out⟩
set_option maxRecDepth 100000 in
set_option maxHeartbeats 8000000 in
theorem lsizes_ok {N : Nat} {w : World} {T : Nat → Ty.TyV} {n : Nat} {a : Option Addr} {c : Nat} (h : TysIn N w a n c T) (hN : N ≤ w.heap.size) (hc : Ty.chk T n = 0) {i : Nat} (hi : i < n) :
    Calls Try.prog 10 #[.slice a n c, .int .i64 i, .int .i64 0] w fun e w' => e = .returned (.bool true) ∧ w.grownBy w' none := by
  have HN : Hid (∀ x W, Calls Try.prog 8 #[.int .i64 x] W fun e w' => e = .returned (.int .i64 x) ∧ w' = W) := num7_any
  have hi' : (i : Int) < n := by omega
  have hm : Ty.nmB n i = true := Ty.nmB_iff.2 ⟨by omega, by omega⟩
  have HI : Hid (∀ W, Calls Try.prog 23 #[.slice a n c, .int .i64 i] W fun e w' => e = .returned (.bool true) ∧ w' = W) := fun W => by rw [← hm]; exact ris7_any _ _ _ _ _
  have C1 : Hid (∀ W, w.grownBy W none → Calls Try.prog 14 #[.slice a n c, .int .i64 i] W fun e w' => e = .returned (.tuple #[.int .i64 (Ty.lie T i).size, .int .i64 0]) ∧ W.grownBy w' none) := fun W hg => size7_ok (h.grow hg) (Nat.le_trans hN hg.size) hc hi
  have C2 : Hid (∀ W, w.grownBy W none → Calls Try.prog 15 #[.slice a n c, .int .i64 i] W fun e w' => e = .returned (.tuple #[.int .i64 (Ty.lie T i).align, .int .i64 0]) ∧ W.grownBy w' none) := fun W hg => align7_ok (h.grow hg) (Nat.le_trans hN hg.size) hc hi
  have C3 : Hid (∀ W, w.grownBy W none → Calls Try.prog 21 #[.slice a n c, .int .i64 i] W fun e w' => e = .returned (.tuple #[.bool (Ty.valB (Ty.lie T i)), .int .i64 0]) ∧ W.grownBy w' none) := fun W hg => value7_ok (h.grow hg) (Nat.le_trans hN hg.size) hc hi
  have C5 : Hid (∀ W, w.grownBy W none → Calls Try.prog 19 #[.slice a n c] W fun e w' => ∃ sa sc aa ac, e = .returned (.tuple #[.slice sa n sc, .slice aa n ac, .int .i64 0]) ∧ NumIn w'.heap.size w' sa n sc (fun j => (Ty.lie T j).size) ∧ NumIn w'.heap.size w' aa n ac (fun j => (Ty.lie T j).align) ∧ W.grownBy w' none) := fun W hg => (rLay_any (h.grow hg)).mono (by
    rintro e w' ⟨hg', ⟨h1, _⟩ | ⟨_, vS, vA, rfl, h2⟩⟩
    · exact absurd hc h1
    · obtain ⟨sa, sc, aa, ac, rfl, rfl, n1, n2⟩ := h2.nums
      exact ⟨sa, sc, aa, ac, rfl, n1, n2, hg'⟩)
  have C6 : Hid (∀ W, w.grownBy W none → Calls Try.prog 24 #[.slice a n c, .int .i64 i] W fun e w' => WdR T i W e w') := fun W hg => rWords_any (h.grow hg) (Nat.le_trans hN hg.size) hc hi
  have hle := h.le
  have hmx := h.max
  unfold maxLen at hmx
  have hwl := Ty.wk_len (T := T) (n := n) (i := i) fun k hk => ((Ty.chk_ok hc).2 k (by omega)).1
  cases hv : Ty.valB (Ty.lie T i)
  · have C4 : Hid (∀ W, w.grownBy W none → Calls Try.prog 22 #[.slice a n c, .int .i64 i] W fun e w' => e = .returned (.tuple #[.slice none 0 0, .slice none 0 0, .int .i64 70]) ∧ W.grownBy w' none) := fun W hg => words7_none (h.grow hg) (Nat.le_trans hN hg.size) hc hi hv
    have C7 : Hid (∀ W, w.grownBy W none → Calls Try.prog 24 #[.slice a n c, .int .i64 i] W fun e w' => e = .returned (.tuple #[.slice none 0 0, .slice none 0 0, .bool false]) ∧ W.grownBy w' none) := fun W hg => (C6.out W hg).mono (by
      rintro e w' ⟨hg', ⟨_, rfl⟩ | ⟨h1, _⟩⟩
      · exact ⟨rfl, hg'⟩
      · rw [hv] at h1; cases h1)
    have C8 : Hid (∀ W, Calls Try.prog 26 #[.slice none 0 0] W fun e w' => e = .returned (.tuple #[]) ∧ W.grownBy w' none) := fun W => spoilZ (ownZ_nil W W.heap.size) (by simp) (Nat.le_refl _)
    rw [hv] at C3
    clear h hc hm C6 hv hwl
    go_enter Try.func10, Try.ntmps10
    go_wp2_with (first
      | (go_at_call 14; refine (C1.out _ (World.grownBy.refl _ _)).mono ?_; rintro e x1 ⟨rfl, g1⟩; have G1 : Hid (w.grownBy x1 none) := g1; clear g1)
      | (go_at_call 15; refine (C2.out _ G1.out).mono ?_; rintro e x2 ⟨rfl, g2⟩; have G2 : Hid (w.grownBy x2 none) := grown_trans G1.out g2; clear g2)
      | (go_at_call 21; refine (C3.out _ G2.out).mono ?_; rintro e x3 ⟨rfl, g3⟩; have G3 : Hid (w.grownBy x3 none) := grown_trans G2.out g3; clear g3)
      | (go_at_call 22; refine (C4.out _ G3.out).mono ?_; rintro e x4 ⟨rfl, g4⟩; have G4 : Hid (w.grownBy x4 none) := grown_trans G3.out g4; clear g4)
      | (go_at_call 23; refine (HI.out _).mono ?_; rintro e x5 ⟨rfl, rfl⟩)
      | (go_at_call 19; refine (C5.out _ G4.out).mono ?_; rintro e x7 ⟨sa, sc, aa, ac, rfl, n1, n2, g7⟩; have G7 : Hid (w.grownBy x7 none) := grown_trans G4.out g7; have N1 : Hid (NumIn x7.heap.size x7 sa n sc (fun j => (Ty.lie T j).size)) := n1; have N2 : Hid (NumIn x7.heap.size x7 aa n ac (fun j => (Ty.lie T j).align)) := n2; have l1 := n1.le; have l2 := n2.le; clear g7 n1 n2)
      | (go_at_call 24; refine (C7.out _ G7.out).mono ?_; rintro e x8 ⟨rfl, g8⟩; have G8 : Hid (w.grownBy x8 none) := grown_trans G7.out g8; obtain ⟨b1, o1, hsa, d1⟩ := (N1.out.grow g8).val hi; obtain ⟨b2, o2, haa, d2⟩ := (N2.out.grow g8).val hi; subst hsa haa; clear g8)
      | (go_at_call 26; refine (C8.out _).mono ?_; rintro e x9 ⟨rfl, g9⟩; have G8 : Hid (w.grownBy x9 none) := grown_trans G8.out g9; clear g9)
      | (go_at_call 8; refine (HN.out _ _).mono ?_; rintro e x6 ⟨rfl, rfl⟩))
    go_ret
    exact ⟨rfl, G8.out⟩
  · have C4 : Hid (∀ W, w.grownBy W none → Calls Try.prog 22 #[.slice a n c, .int .i64 i] W fun e w' => ∃ vK vO, e = .returned (.tuple #[vK, vO, .int .i64 0]) ∧ OwnZ w' W.heap.size vK (Ty.k1 (Ty.wk T i)) ∧ OwnZ w' W.heap.size vO (Ty.k2 (Ty.wk T i)) ∧ (∀ q, vK.ownBlock = some q → vO.ownBlock ≠ some q) ∧ W.grownBy w' none) := fun W hg => words7_ok (h.grow hg) (Nat.le_trans hN hg.size) hc hi hv
    have C7 : Hid (∀ W, w.grownBy W none → Calls Try.prog 24 #[.slice a n c, .int .i64 i] W fun e w' => ∃ ka kc oa oc, e = .returned (.tuple #[.slice ka (Ty.wk T i).length kc, .slice oa (Ty.wk T i).length oc, .bool true]) ∧ NumIn w'.heap.size w' ka (Ty.wk T i).length kc (atF (Ty.k1 (Ty.wk T i))) ∧ NumIn w'.heap.size w' oa (Ty.wk T i).length oc (atF (Ty.k2 (Ty.wk T i))) ∧ W.grownBy w' none) := fun W hg => (C6.out W hg).mono (by
      rintro e w' ⟨hg', ⟨h1, _⟩ | ⟨_, ka, kc, oa, oc, rfl, n1, n2⟩⟩
      · rw [hv] at h1; cases h1
      · exact ⟨ka, kc, oa, oc, rfl, n1, n2, hg'⟩)
    have hvw : (Ty.lie T i).words ≤ 16 := by unfold Ty.valB at hv; simp only [Bool.and_eq_true, decide_eq_true_eq] at hv; exact hv.2
    have l1 : (Ty.k1 (Ty.wk T i)).length = (Ty.wk T i).length := by rw [Ty.k1, List.length_map]
    have l2 : (Ty.k2 (Ty.wk T i)).length = (Ty.wk T i).length := by rw [Ty.k2, List.length_map]
    obtain ⟨m, hmm⟩ : ∃ m, m = (Ty.wk T i).length := ⟨_, rfl⟩
    have hm16 : m ≤ 16 := by omega
    rw [← hmm] at C7 l1 l2
    rw [hv] at C3
    have HE : Hid (∀ (a1 a2 : Option Addr) (c1 c2 : Nat) (Z : List Int) (W : World), NumIn W.heap.size W a1 m c1 (atF Z) → NumIn W.heap.size W a2 m c2 (atF Z) → Calls Try.prog 25 #[.slice a1 m c1, .slice a2 m c2] W fun e w' => e = .returned (.bool true) ∧ W.grownBy w' none) := fun a1 a2 c1 c2 Z W h1 h2 => eqNums_true h1 h2 (fun _ _ => rfl)
    clear h hc hm C6 hv hwl hvw hmm
    generalize Ty.k1 (Ty.wk T i) = Z1 at *
    generalize Ty.k2 (Ty.wk T i) = Z2 at *
    go_enter Try.func10, Try.ntmps10
    go_wp2_with (first
      | (go_at_call 14; refine (C1.out _ (World.grownBy.refl _ _)).mono ?_; rintro e x1 ⟨rfl, g1⟩; have G1 : Hid (w.grownBy x1 none) := g1; clear g1)
      | (go_at_call 15; refine (C2.out _ G1.out).mono ?_; rintro e x2 ⟨rfl, g2⟩; have G2 : Hid (w.grownBy x2 none) := grown_trans G1.out g2; clear g2)
      | (go_at_call 21; refine (C3.out _ G2.out).mono ?_; rintro e x3 ⟨rfl, g3⟩; have G3 : Hid (w.grownBy x3 none) := grown_trans G2.out g3; clear g3)
      | (go_at_call 22; refine (C4.out _ G3.out).mono ?_; rintro e x4 ⟨vK, vO, rfl, oK, oO, hap, g4⟩; have G4 : Hid (w.grownBy x4 none) := grown_trans G3.out g4; have hs3 := G3.out.size; have OK : Hid (OwnZ x4 w.heap.size vK Z1) := oK.low hs3; have OO : Hid (OwnZ x4 w.heap.size vO Z2) := oO.low hs3; have HAP : Hid (∀ q, vK.ownBlock = some q → vO.ownBlock ≠ some q) := hap; obtain ⟨aK, cK, hvK, _⟩ := oK.slice; obtain ⟨aO, cO, hvO, _⟩ := oO.slice; rw [l1] at hvK; rw [l2] at hvO; subst hvK hvO; clear g4 oK oO hap)
      | (go_at_call 23; refine (HI.out _).mono ?_; rintro e x5 ⟨rfl, hx5⟩; subst hx5)
      | (go_at_call 19; refine (C5.out _ G4.out).mono ?_; rintro e x7 ⟨sa, sc, aa, ac, rfl, n1, n2, g7⟩; have G7 : Hid (w.grownBy x7 none) := grown_trans G4.out g7; have N1 : Hid (NumIn x7.heap.size x7 sa n sc (fun j => (Ty.lie T j).size)) := n1; have N2 : Hid (NumIn x7.heap.size x7 aa n ac (fun j => (Ty.lie T j).align)) := n2; have ll1 := n1.le; have ll2 := n2.le; have OK7 : Hid (OwnZ x7 w.heap.size (.slice aK m cK) Z1) := OK.out.grow g7; have OO7 : Hid (OwnZ x7 w.heap.size (.slice aO m cO) Z2) := OO.out.grow g7; clear g7 n1 n2)
      | (go_at_call 24; refine (C7.out _ G7.out).mono ?_; rintro e x8 ⟨ka, kc, oa, oc, rfl, m1, m2, g8⟩; have G8 : Hid (w.grownBy x8 none) := grown_trans G7.out g8; obtain ⟨b1, o1, hsa, d1⟩ := (N1.out.grow g8).val hi; obtain ⟨b2, o2, haa, d2⟩ := (N2.out.grow g8).val hi; subst hsa haa; have M1 : Hid (NumIn x8.heap.size x8 ka m kc (atF Z1)) := m1; have M2 : Hid (NumIn x8.heap.size x8 oa m oc (atF Z2)) := m2; have OK8 : Hid (OwnZ x8 w.heap.size (.slice aK m cK) Z1) := OK7.out.grow g8; have OO8 : Hid (OwnZ x8 w.heap.size (.slice aO m cO) Z2) := OO7.out.grow g8; clear g8 m1 m2)
      | (go_at_call_of 25 (Value.slice aK m cK); refine (HE.out aK ka cK kc Z1 _ (by obtain ⟨a9, c9, e9, n9, _⟩ := OK8.out.numT l1; injection e9 with p1 p2 p3; rw [p1, p3]; exact n9) M1.out).mono ?_; rintro e y1 ⟨rfl, q1⟩; have G9 : Hid (w.grownBy y1 none) := grown_trans G8.out q1; have OK9 : Hid (OwnZ y1 w.heap.size (.slice aK m cK) Z1) := OK8.out.grow q1; have OO9 : Hid (OwnZ y1 w.heap.size (.slice aO m cO) Z2) := OO8.out.grow q1; have M9 : Hid (NumIn y1.heap.size y1 oa m oc (atF Z2)) := (M2.out.grow q1).up q1.size; clear q1)
      | (go_at_call_of 25 (Value.slice aO m cO); refine (HE.out aO oa cO oc Z2 _ (by obtain ⟨a9, c9, e9, n9, _⟩ := OO9.out.numT l2; injection e9 with p1 p2 p3; rw [p1, p3]; exact n9) M9.out).mono ?_; rintro e y2 ⟨rfl, q2⟩; have G10 : Hid (w.grownBy y2 none) := grown_trans G9.out q2; have OK10 : Hid (OwnZ y2 w.heap.size (.slice aK m cK) Z1) := OK9.out.grow q2; have OO10 : Hid (OwnZ y2 w.heap.size (.slice aO m cO) Z2) := OO9.out.grow q2; have hs10 := G10.out.size; clear q2)
      | (go_at_call_of 26 (Value.slice aK m cK); refine (spoilZ OK10.out (by omega) (by omega)).mono ?_; rintro e y3 ⟨rfl, q3⟩; have Q3 : Hid (Ch y2 y3 (Value.slice aK m cK).ownBlock.toList) := grown_ch q3; have OO11 : Hid (OwnZ y3 w.heap.size (.slice aO m cO) Z2) := OO10.out.ch (grown_ch q3) (fun q hq hm => HAP.out q (by simpa using hm) hq); have hs11 := q3.size; clear q3)
      | (go_at_call_of 26 (Value.slice aO m cO); refine (spoilZ OO11.out (by omega) (by omega)).mono ?_; rintro e y4 ⟨rfl, q4⟩; have Q4 : Hid (Ch y3 y4 (Value.slice aO m cO).ownBlock.toList) := grown_ch q4; clear q4)
      | (go_at_call 8; refine (HN.out _ _).mono ?_; rintro e x6 ⟨rfl, rfl⟩))
    go_ret
    refine ⟨rfl, ?_⟩
    have hK := OK10.out.base
    have hO := OO10.out.base
    exact (((Ch.of (l := (Value.slice aK m cK).ownBlock.toList ++ (Value.slice aO m cO).ownBlock.toList) G10.out).trans (Q3.out.mono (fun q _ hq => List.mem_append_left _ hq))).trans (Q4.out.mono (fun q _ hq => List.mem_append_right _ hq))).nil (fun q hq => by
      rcases List.mem_append.1 hq with h1 | h1
      · exact hK q (by simpa using h1)
      · exact hO q (by simpa using h1))
end Go.Proofs.Ytlkldehapkgdaaa

/- TypesExact: the walk. -/
namespace Go.Proofs.Ytlkldehapkgdaaa
open Go.RowKit
set_option linter.unusedVariables false

theorem lsizes_any {N : Nat} {w : World} {T : Nat → Ty.TyV} {n : Nat} {a : Option Addr} {c : Nat} (h : TysIn N w a n c T) (hN : N ≤ w.heap.size) (i : Int) :
    Calls Try.prog 10 #[.slice a n c, .int .i64 i, .int .i64 (Ty.chk T n)] w fun e w' => e = .returned (.bool true) ∧ w.grownBy w' none := by
  by_cases hc : Ty.cod T n i = 0
  · obtain ⟨h1, h2, h3⟩ := Ty.cod_ok hc
    obtain ⟨j, rfl⟩ : ∃ j : Nat, i = j := ⟨i.toNat, by omega⟩
    rw [h1]
    exact lsizes_ok h hN h1 (by omega)
  · exact lsizes_no h hN hc
set_option maxRecDepth 100000 in
set_option maxHeartbeats 8000000 in
theorem typesExact_walk (a : Option Addr) (len cap : Nat) (V : Nat → TbV) (w : World) (hl : RowB 3 72 TbAt w a len cap V) :
    Calls Try.prog 3 #[.slice a len cap] w fun e w' => e = .returned (.bool true) ∧ Below w.heap.size w w' := by
  have HW : Hid (∀ W, Calls Try.prog 13 #[] W fun r w' => r = .returned (.bool true) ∧ W.grownBy w' none) := wakes7_any
  have HN : Hid (∀ x W, Calls Try.prog 8 #[.int .i64 x] W fun e w' => e = .returned (.int .i64 x) ∧ w' = W) := num7_any
  have hfit : len * 72 ≤ 140737488351232 := hl.fits
  have hfit' : (len : Int) ≤ 140737488351232 := by omega
  rcases hl.bs with h0 | ⟨b, off, rfl, hlt, hV⟩
  · subst h0
    go_enter Try.func3, Try.ntmps3
    go_wp2_with fail
    refine wp_loop_once ?_
    go_wp2_with (go_at_call 13; refine (HW.out _).mono ?_; rintro r w1 ⟨rfl, g1⟩)
    go_ret
    exact ⟨rfl, grown_below g1⟩
  · have HV : Hid (∀ i, i < len → TbAt w b (off + i * 3) (V i)) := hV
    have hle := hl.le
    clear hV hl
    go_enter Try.func3, Try.ntmps3
    go_wp2_with fail
    go_loopw [3] (fun ix wr => ∃ k : Nat, ix = .int .i64 k ∧ k ≤ len ∧ w.grownBy wr none) (fun ix _ => len - (intOf ix).toNat)
    case atStart => exact ⟨0, rfl, Nat.zero_le _, World.grownBy.refl _ _⟩
    case round =>
      obtain ⟨k, rfl, hk, hg⟩ := hrel
      obtain ⟨wo, hwo⟩ : ∃ wo, wo = wr := ⟨_, rfl⟩
      rw [← hwo] at hg ⊢
      clear hwo
      have HG : Hid (w.grownBy wo none) := hg
      by_cases hkl : k < len
      · have hkl' : (k : Int) < len := by omega
        by_cases hk10 : k < 10
        · have hk10' : (k : Int) < 10 := by omega
          have hTb := HV.out k hkl
          have htf := hTb.tf
          have htz := hTb.tz
          have hsz := hg.size
          generalize V k = v at hTb htf htz
          obtain ⟨ta, tn, tc, T, ia, im, ic, I, fa, fm, fc, F⟩ := v
          simp only at hTb htf htz
          have HTb : Hid (TbAt w b (off + k * 3) ⟨ta, tn, tc, T, ia, im, ic, I, fa, fm, fc, F⟩) := hTb
          obtain ⟨t0, _, _, tT, tI, tF⟩ := hTb.grow hg
          simp only at t0 tT tI tF
          have HT : Hid (TysIn w.heap.size wo ta tn tc T) := tT
          have HF : Hid (∀ i, i < tn → (T i).nf * 8 ≤ reachBytes) := htf
          have HH := heavy7_any tT htz htf
          have hnle := tT.le
          have hnmx := tT.max
          have hile := tI.le
          have himx := tI.max
          have hfle := tF.le
          have hfmx := tF.max
          unfold maxLen at hnmx himx hfmx
          clear tT htf hTb tI tF hg
          by_cases h2000 : tn ≤ 2000
          · have HH2 : Hid (Calls Try.prog 5 #[.slice ta tn tc] wo fun e w' => HvR tn e ∧ w' = wo) := HH
            have HCp : Hid (Calls Try.prog 6 #[.slice ta tn tc] wo fun e w' => ∃ a' c', e = .returned (.slice a' tn c') ∧ TysIn w'.heap.size w' a' tn c' T ∧ wo.grownBy w' none) := copyTypes_any HT.out hsz h2000 HF.out
            have HCk : Hid (∀ a' c' W, TysIn W.heap.size W a' tn c' T → Calls Try.prog 9 #[.slice a' tn c'] W fun e w' => e = .returned (.int .i64 (Ty.chk T tn)) ∧ W.grownBy w' none) := fun a' c' W hT => check_any hT (Nat.le_refl _)
            have HRk : Hid (∀ a' c' W, TysIn W.heap.size W a' tn c' T → Calls Try.prog 7 #[.slice a' tn c'] W fun e w' => e = .returned (.int .i64 (Ty.chk T tn)) ∧ W.grownBy w' none) := fun a' c' W hT => rCheck_any hT
            have HSz : Hid (∀ (M : Nat) a' c' W i, TysIn M W a' tn c' T → M ≤ W.heap.size → Calls Try.prog 10 #[.slice a' tn c', .int .i64 i, .int .i64 (Ty.chk T tn)] W fun e w' => e = .returned (.bool true) ∧ W.grownBy w' none) := fun M a' c' W i hT hM => lsizes_any hT hM i
            have HOf : Hid (∀ (M : Nat) a' c' W i f, TysIn M W a' tn c' T → M ≤ W.heap.size → Calls Try.prog 11 #[.slice a' tn c', .int .i64 i, .int .i64 f, .int .i64 (Ty.chk T tn)] W fun e w' => e = .returned (.bool true) ∧ W.grownBy w' none) := fun M a' c' W i f hT hM => loffset_any hT hM i f
            clear HH
            generalize Ty.chk T tn = Z at *
            go_wp2_with (first
              | (go_at_call 5; refine HH2.out.mono ?_; rintro e w3 ⟨⟨bv, rfl, hbv⟩, hw3⟩; subst hw3; clear hbv)
              | (go_at_call 6; refine HCp.out.mono ?_; rintro e w4 ⟨a4, c4, rfl, hT4, hg4⟩; have HT4 : Hid (TysIn w4.heap.size w4 a4 tn c4 T) := hT4; have HG4 : Hid (w.grownBy w4 none) := grown_trans HG.out hg4; have hl4 := hT4.le; have hm4 := hT4.max; unfold maxLen at hm4; clear hT4 hg4)
              | (go_at_call 7; refine (HRk.out _ _ _ HT4.out).mono ?_; rintro e w5 ⟨rfl, hg5⟩; have HG5 : Hid (w4.grownBy w5 none) := hg5; clear hg5)
              | (go_at_call 9; refine (HCk.out _ _ _ ((HT4.out.grow HG5.out).up HG5.out.size)).mono ?_; rintro e w6 ⟨rfl, hg6⟩; have HG6 : Hid (w4.grownBy w6 none) := grown_trans HG5.out hg6; clear hg6)
              | (go_at_call 8; refine (HN.out _ _).mono ?_; rintro e w7 ⟨rfl, hw7⟩; subst hw7))
            · go_ret
              exact ⟨rfl, grown_below HG.out⟩
            · clear HH2 HCp HCk HRk t0
              go_loopw [6] (fun ix wr => ∃ q : Nat, ix = .int .i64 q ∧ q ≤ im ∧ w4.grownBy wr none) (fun ix _ => im - (intOf ix).toNat)
              case atStart => exact ⟨0, rfl, Nat.zero_le _, HG6.out⟩
              case round =>
                obtain ⟨q, rfl, hq, hgq⟩ := hrel
                obtain ⟨wm, hwm⟩ : ∃ wm, wm = wr := ⟨_, rfl⟩
                rw [← hwm] at hgq ⊢
                clear hwm
                have HGq : Hid (w4.grownBy wm none) := hgq
                obtain ⟨s0, s1, s2, sT, sI, sF⟩ := HTb.out.grow (grown_trans HG4.out hgq)
                simp only at s0 s1 s2 sI sF
                have hszq := hgq.size
                by_cases hcq : q < im ∧ q < 20
                · have hqi : (q : Int) < im := by omega
                  have hq20 : (q : Int) < 20 := by omega
                  obtain ⟨ib, io, hia, hci⟩ := sI.val hcq.1
                  subst hia
                  have HSq : Hid (Calls Try.prog 10 #[.slice a4 tn c4, .int .i64 (I q), .int .i64 Z] wm fun e w' => e = .returned (.bool true) ∧ wm.grownBy w' none) := HSz.out _ a4 c4 wm (I q) (HT4.out.grow hgq) hszq
                  clear hgq sT sI sF s0 s2
                  go_wp2_with (go_at_call 10; refine HSq.out.mono ?_; rintro e x1 ⟨rfl, y1⟩; have Y1 : Hid (w4.grownBy x1 none) := grown_trans HGq.out y1; clear y1)
                  clear hci s1
                  go_loopw [7] (fun ix wr => ∃ j : Nat, ix = .int .i64 j ∧ j ≤ fm ∧ w4.grownBy wr none) (fun ix _ => fm - (intOf ix).toNat)
                  case atStart => exact ⟨0, rfl, Nat.zero_le _, Y1.out⟩
                  case round =>
                    obtain ⟨j, rfl, hj, hgj⟩ := hrel
                    have HGj : Hid (w4.grownBy wr none) := hgj
                    obtain ⟨r0, r1, r2, rT, rI, rF⟩ := HTb.out.grow (grown_trans HG4.out hgj)
                    simp only at r0 r1 r2 rI rF
                    have hszj := hgj.size
                    by_cases hcj : j < fm ∧ j < 6
                    · have hjf : (j : Int) < fm := by omega
                      have hj6 : (j : Int) < 6 := by omega
                      obtain ⟨fb, fo, hfa, hcf⟩ := rF.val hcj.1
                      subst hfa
                      obtain ⟨ib2, io2, hia2, hci2⟩ := rI.val hcq.1
                      injection hia2 with hia2
                      injection hia2 with e1 e2
                      subst e1 e2
                      have HOj : Hid (∀ y : Gw wr, Calls Try.prog 11 #[.slice a4 tn c4, .int .i64 (I q), .int .i64 (F j), .int .i64 Z] y.w fun e w' => e = .returned (.bool true) ∧ y.w.grownBy w' none) := fun y => HOf.out _ a4 c4 y.w (I q) (F j) (HT4.out.grow (grown_trans HGj.out y.h)) (by have := y.h.size; omega)
                      have HR1 : Hid (wr.cell? ⟨b, off + k * 3 + 1, none⟩ = some (.slice (some ⟨ib, io, none⟩) im ic)) := r1
                      have HR2 : Hid (wr.cell? ⟨b, off + k * 3 + 2, none⟩ = some (.slice (some ⟨fb, fo, none⟩) fm fc)) := r2
                      have HR3 : Hid (wr.cell? ⟨ib, io + q, none⟩ = some (.int .i64 (I q))) := hci2
                      have HR4 : Hid (wr.cell? ⟨fb, fo + j, none⟩ = some (.int .i64 (F j))) := hcf
                      clear hgj r0 r1 rT rI rF hci2 hcf
                      generalize I q = iq at *
                      generalize F j = fj at *
                      go_wp2_with fail
                      have ne : Nonempty (Gw wr) := ⟨⟨wr, World.grownBy.refl _ _⟩⟩
                      refine region_grown (by kernel_rfl) (by kernel_rfl) ?_
                      have d1 := fun y : Gw wr => (Ch.of (l := []) y.h).cell HR1.out (by simp)
                      have d2 := fun y : Gw wr => (Ch.of (l := []) y.h).cell HR2.out (by simp)
                      have d3 := fun y : Gw wr => (Ch.of (l := []) y.h).cell HR3.out (by simp)
                      have d4 := fun y : Gw wr => (Ch.of (l := []) y.h).cell HR4.out (by simp)
                      repeat (go_big_quiet_step (first | exact rfl | (go_at_call 11; exact Gw.call (HOj.out _))))
                      refine wpQuiet_nil ?_
                      rintro W5 ⟨y5, hy5⟩
                      have g5 : wr.grownBy W5 none := by rw [hy5]; exact y5.h
                      clear hy5 y5 d1 d2 d3 d4 ne
                      go_wp2
                      go_roundw
                      case rel => exact ⟨j + 1, by go_num, by omega, grown_trans HGj.out g5⟩
                      case measure => simp [intOf]; omega
                    · clear hgj r0 r1 rT rI rF
                      by_cases hjf : j < fm
                      · have hjf' : (j : Int) < fm := by omega
                        have hj6' : ¬ (j : Int) < 6 := by omega
                        clear hcj
                        go_wp2
                        go_roundw
                        case rel => exact ⟨q + 1, by go_num, by omega, HGj.out⟩
                        case measure => simp [intOf]; omega
                      · have hjf' : ¬ (j : Int) < fm := by omega
                        clear hcj
                        go_wp2
                        go_roundw
                        case rel => exact ⟨q + 1, by go_num, by omega, HGj.out⟩
                        case measure => simp [intOf]; omega
                · clear hgq sT sI sF s0 s2
                  by_cases hqi : q < im
                  · have hqi' : (q : Int) < im := by omega
                    have hq20 : ¬ (q : Int) < 20 := by omega
                    clear hcq
                    go_wp2_with fail
                    go_loopw [8] (fun ix wr => ∃ r : Nat, ix = .int .i64 r ∧ r ≤ tn ∧ w4.grownBy wr none) (fun ix _ => tn - (intOf ix).toNat)
                    case atStart => exact ⟨0, rfl, Nat.zero_le _, HGq.out⟩
                    case round =>
                      obtain ⟨r, rfl, hr, hgr⟩ := hrel
                      have HGr : Hid (w4.grownBy wr none) := hgr
                      have hszr := hgr.size
                      by_cases hcr : r < tn ∧ r < 64
                      · have hrn : (r : Int) < tn := by omega
                        have hr64 : (r : Int) < 64 := by omega
                        have HSr : Hid (Calls Try.prog 10 #[.slice a4 tn c4, .int .i64 r, .int .i64 Z] wr fun e w' => e = .returned (.bool true) ∧ wr.grownBy w' none) := HSz.out _ a4 c4 wr r (HT4.out.grow hgr) hszr
                        clear hgr
                        go_wp2_with (go_at_call 10; refine HSr.out.mono ?_; rintro e x1 ⟨rfl, y1⟩; have Y1 : Hid (w4.grownBy x1 none) := grown_trans HGr.out y1; clear y1)
                        go_roundw
                        case rel => exact ⟨r + 1, by go_num, by omega, Y1.out⟩
                        case measure => simp [intOf]; omega
                      · obtain ⟨z0, _, _, zT, _, _⟩ := HTb.out.grow (grown_trans HG4.out hgr)
                        simp only at z0 zT
                        have HEt : Hid (Calls Try.prog 12 #[.slice a4 tn c4, .slice ta tn tc] wr fun e w' => e = .returned (.bool true) ∧ wr.grownBy w' none) := eqTypes_true (HT4.out.grow hgr) zT
                        clear hgr zT
                        by_cases hrn : r < tn
                        · have hrn' : (r : Int) < tn := by omega
                          have hr64 : ¬ (r : Int) < 64 := by omega
                          clear hcr
                          go_wp2_with (go_at_call 12; refine HEt.out.mono ?_; rintro e x1 ⟨rfl, y1⟩; have Y1 : Hid (w4.grownBy x1 none) := grown_trans HGr.out y1; clear y1)
                          go_roundw
                          case rel => exact ⟨k + 1, by go_num, by omega, grown_trans HG4.out Y1.out⟩
                          case measure => simp [intOf]; omega
                        · have hrn' : ¬ (r : Int) < tn := by omega
                          clear hcr
                          go_wp2_with (go_at_call 12; refine HEt.out.mono ?_; rintro e x1 ⟨rfl, y1⟩; have Y1 : Hid (w4.grownBy x1 none) := grown_trans HGr.out y1; clear y1)
                          go_roundw
                          case rel => exact ⟨k + 1, by go_num, by omega, grown_trans HG4.out Y1.out⟩
                          case measure => simp [intOf]; omega
                  · have hqi' : ¬ (q : Int) < im := by omega
                    clear hcq
                    go_wp2_with fail
                    go_loopw [8] (fun ix wr => ∃ r : Nat, ix = .int .i64 r ∧ r ≤ tn ∧ w4.grownBy wr none) (fun ix _ => tn - (intOf ix).toNat)
                    case atStart => exact ⟨0, rfl, Nat.zero_le _, HGq.out⟩
                    case round =>
                      obtain ⟨r, rfl, hr, hgr⟩ := hrel
                      have HGr : Hid (w4.grownBy wr none) := hgr
                      have hszr := hgr.size
                      by_cases hcr : r < tn ∧ r < 64
                      · have hrn : (r : Int) < tn := by omega
                        have hr64 : (r : Int) < 64 := by omega
                        have HSr : Hid (Calls Try.prog 10 #[.slice a4 tn c4, .int .i64 r, .int .i64 Z] wr fun e w' => e = .returned (.bool true) ∧ wr.grownBy w' none) := HSz.out _ a4 c4 wr r (HT4.out.grow hgr) hszr
                        clear hgr
                        go_wp2_with (go_at_call 10; refine HSr.out.mono ?_; rintro e x1 ⟨rfl, y1⟩; have Y1 : Hid (w4.grownBy x1 none) := grown_trans HGr.out y1; clear y1)
                        go_roundw
                        case rel => exact ⟨r + 1, by go_num, by omega, Y1.out⟩
                        case measure => simp [intOf]; omega
                      · obtain ⟨z0, _, _, zT, _, _⟩ := HTb.out.grow (grown_trans HG4.out hgr)
                        simp only at z0 zT
                        have HEt : Hid (Calls Try.prog 12 #[.slice a4 tn c4, .slice ta tn tc] wr fun e w' => e = .returned (.bool true) ∧ wr.grownBy w' none) := eqTypes_true (HT4.out.grow hgr) zT
                        clear hgr zT
                        by_cases hrn : r < tn
                        · have hrn' : (r : Int) < tn := by omega
                          have hr64 : ¬ (r : Int) < 64 := by omega
                          clear hcr
                          go_wp2_with (go_at_call 12; refine HEt.out.mono ?_; rintro e x1 ⟨rfl, y1⟩; have Y1 : Hid (w4.grownBy x1 none) := grown_trans HGr.out y1; clear y1)
                          go_roundw
                          case rel => exact ⟨k + 1, by go_num, by omega, grown_trans HG4.out Y1.out⟩
                          case measure => simp [intOf]; omega
                        · have hrn' : ¬ (r : Int) < tn := by omega
                          clear hcr
                          go_wp2_with (go_at_call 12; refine HEt.out.mono ?_; rintro e x1 ⟨rfl, y1⟩; have Y1 : Hid (w4.grownBy x1 none) := grown_trans HGr.out y1; clear y1)
                          go_roundw
                          case rel => exact ⟨k + 1, by go_num, by omega, grown_trans HG4.out Y1.out⟩
                          case measure => simp [intOf]; omega
          · have HH2 : Hid (Calls Try.prog 5 #[.slice ta tn tc] wo fun e w' => e = .returned (.bool true) ∧ w' = wo) := HH.mono (by
              rintro e w' ⟨⟨bv, rfl, hbv⟩, rfl⟩
              cases bv
              · exact absurd (hbv rfl) h2000
              · exact ⟨rfl, rfl⟩)
            clear HH
            go_wp2_with (go_at_call 5; refine HH2.out.mono ?_; rintro e w3 ⟨rfl, rfl⟩)
            go_ret
            exact ⟨rfl, grown_below HG.out⟩
        · have hk10' : ¬ (k : Int) < 10 := by omega
          clear hg
          go_wp2_with (go_at_call 13; refine (HW.out _).mono ?_; rintro r w1 ⟨rfl, g1⟩)
          go_ret
          exact ⟨rfl, grown_below (grown_trans HG.out g1)⟩
      · have hkl' : ¬ (k : Int) < len := by omega
        clear hg
        go_wp2_with (go_at_call 13; refine (HW.out _).mono ?_; rintro r w1 ⟨rfl, g1⟩)
        go_ret
        exact ⟨rfl, grown_below (grown_trans HG.out g1)⟩
end Go.Proofs.Ytlkldehapkgdaaa
