/- EqPlaces, EqAssign; what spoils places. -/
import Derived.Test.YtdfjaedafampaaaAbRefP
namespace Go.Proofs.Ytdfjaedafampaaa
open Go.RowKit
set_option linter.unusedVariables false

/-- places that lie in a row -/
structure PcIn (w : World) (a : Option Addr) (n c : Nat) (P : Nat → Ab.Pc) : Prop where
  le : n ≤ c
  lie : n = 0 ∨ ∃ b off, a = some ⟨b, off, none⟩ ∧ ∀ i, i < n → w.cell? ⟨b, off + i * 2, none⟩ = some (.bool (P i).st) ∧ w.cell? ⟨b, off + i * 2 + 1, none⟩ = some (.int .i64 (P i).n)
theorem PcIn.grow {w w' : World} {a : Option Addr} {n c : Nat} {P : Nat → Ab.Pc} (h : PcIn w a n c P) (g : w.grownBy w' none) : PcIn w' a n c P :=
  ⟨h.le, by
    rcases h.lie with h0 | ⟨b, off, e, hc⟩
    · exact .inl h0
    · exact .inr ⟨b, off, e, fun i hi => ⟨(Ch.of (l := []) g).cell (hc i hi).1 (by simp), (Ch.of (l := []) g).cell (hc i hi).2 (by simp)⟩⟩⟩
def Ab.pc0 : Ab.Pc := ⟨false, 0⟩
theorem OwnP.pcIn {w : World} {base : Nat} {v : Value} {l : List Ab.Pc} (h : OwnP w base v l) : ∃ a c, v = .slice a l.length c ∧ PcIn w a l.length c (fun i => l.getD i Ab.pc0) := by
  obtain ⟨a, c, rfl, h1, _, _, h3⟩ := h.slice
  refine ⟨a, c, rfl, h1, ?_⟩
  by_cases h0 : l.length = 0
  · exact .inl h0
  · obtain ⟨T, rfl, _⟩ := h3 (by omega)
    refine .inr ⟨T, 0, rfl, fun i hi => ?_⟩
    have := h.cell hi
    rw [List.getD_eq_getElem?_getD, List.getElem?_eq_getElem hi]
    simpa using this
set_option maxRecDepth 100000 in
set_option maxHeartbeats 4000000 in
theorem eqPlaces_true {w : World} {a a' : Option Addr} {n c c' : Nat} {P P' : Nat → Ab.Pc} (h : PcIn w a n c P) (h' : PcIn w a' n c' P') (hP : ∀ i, i < n → P i = P' i) (hn : (n : Int) ≤ 1000) :
    Calls Try.prog 17 #[.slice a n c, .slice a' n c'] w fun e w' => e = .returned (.bool true) ∧ w.grownBy w' none := by
  have hle := h.le
  have hle' := h'.le
  have H1 : Hid (∀ W, w.grownBy W none → PcIn W a n c P) := fun W g => h.grow g
  have H2 : Hid (∀ W, w.grownBy W none → PcIn W a' n c' P') := fun W g => h'.grow g
  have HPP : Hid (∀ i, i < n → P i = P' i) := hP
  clear h h' hP
  go_enter Try.func17, Try.ntmps17
  go_wp2_with fail
  go_loopw [5] (fun ix wr => ∃ k : Nat, ix = .int .i64 k ∧ k ≤ n ∧ w.grownBy wr none) (fun ix _ => n - (intOf ix).toNat)
  case atStart => exact ⟨0, rfl, Nat.zero_le _, World.grownBy.refl _ _⟩
  case round =>
    obtain ⟨k, rfl, hk, hg⟩ := hrel
    have HG : Hid (w.grownBy wr none) := hg
    by_cases hkn : k < n
    · have hkn' : (k : Int) < n := by omega
      have q1 := H1.out wr hg
      have q2 := H2.out wr hg
      rcases q1.lie with h0 | ⟨b, off, e1, hc1⟩
      · omega
      rcases q2.lie with h0 | ⟨b', off', e2, hc2⟩
      · omega
      subst e1 e2
      obtain ⟨c1, c2⟩ := hc1 k hkn
      obtain ⟨d1, d2⟩ := hc2 k hkn
      rw [← HPP.out k hkn] at d1 d2
      generalize P k = x at *
      clear hg hc1 hc2 q1 q2
      go_wp2_with fail
      go_quiet (fail)
      go_wp2
      go_roundw
      case rel => exact ⟨k + 1, by go_num, by omega, grown_trans HG.out (grown_drewN (World.grownBy.refl _ none) _)⟩
      case measure => simp [intOf]; omega
    · obtain rfl : k = n := by omega
      clear hg
      go_wp2_with fail
      go_ret
      exact ⟨rfl, HG.out⟩
set_option maxRecDepth 100000 in
set_option maxHeartbeats 4000000 in
theorem eqAssign_true {w : World} {a a' r r' : Option Addr} {n c c' m d d' : Nat} {P P' Q Q' : Nat → Ab.Pc} {s : Int} (h : PcIn w a n c P) (h' : PcIn w a' n c' P') (hP : ∀ i, i < n → P i = P' i) (hn : (n : Int) ≤ 1000) (k : PcIn w r m d Q) (k' : PcIn w r' m d' Q') (hQ : ∀ i, i < m → Q i = Q' i) (hm : (m : Int) ≤ 1000) :
    Calls Try.prog 11 #[.agg #[.slice a n c, .slice r m d, .int .i64 s], .agg #[.slice a' n c', .slice r' m d', .int .i64 s]] w fun e w' => e = .returned (.bool true) ∧ w.grownBy w' none := by
  have H1 : Hid (∀ W, w.grownBy W none → Calls Try.prog 17 #[.slice a n c, .slice a' n c'] W fun e w' => e = .returned (.bool true) ∧ W.grownBy w' none) := fun W g => eqPlaces_true (h.grow g) (h'.grow g) hP hn
  have H2 : Hid (∀ W, w.grownBy W none → Calls Try.prog 17 #[.slice r m d, .slice r' m d'] W fun e w' => e = .returned (.bool true) ∧ W.grownBy w' none) := fun W g => eqPlaces_true (k.grow g) (k'.grow g) hQ hm
  obtain ⟨B, hB⟩ : ∃ B, w.heap.size = B := ⟨_, rfl⟩
  obtain ⟨w0, hw0⟩ : ∃ w0, w0 = (w.alloc (Obj.cells #[.slice a n c, .slice r m d, .int .i64 s] 31)).alloc (Obj.cells #[.slice a' n c', .slice r' m d', .int .i64 s] 31) := ⟨_, rfl⟩
  have HG : Hid (w.grownBy w0 none) := by rw [hw0]; exact ga (World.grownBy_alloc _ _ _) _
  have HB1 : Hid (Bk w0 B 31 [.slice a n c, .slice r m d, .int .i64 s]) := by rw [hw0, ← hB]; exact (Bk.new _ _ _).grow (World.grownBy_alloc _ _ _)
  have HB2 : Hid (Bk w0 (B + 1) 31 [.slice a' n c', .slice r' m d', .int .i64 s]) := by
    rw [hw0, ← hB]
    have hh := Bk.new (w.alloc (Obj.cells #[.slice a n c, .slice r m d, .int .i64 s] 31)) 31 [.slice a' n c', .slice r' m d', .int .i64 s]
    rw [show (w.alloc (Obj.cells #[.slice a n c, .slice r m d, .int .i64 s] 31)).heap.size = w.heap.size + 1 by simp] at hh
    exact hh
  have HW0 : Hid ((w.alloc (Obj.cells #[.slice a n c, .slice r m d, .int .i64 s] 31)).alloc (Obj.cells #[.slice a' n c', .slice r' m d', .int .i64 s] 31) = w0) := hw0.symm
  clear h h' hP k k' hQ hw0
  go_enter Try.func11, Try.ntmps11
  go_wp2_with (first
    | (go_at_call 17; rw [HW0.out]; refine (H1.out _ HG.out).mono ?_; clear H1; rintro e w3 ⟨rfl, hg3⟩; have HG3 : Hid (w0.grownBy w3 none) := hg3; have c1 := (HB1.out.grow hg3).cell (i := 1) rfl; have c2 := (HB2.out.grow hg3).cell (i := 1) rfl; clear hg3)
    | (go_at_call 17; refine (H2.out _ (grown_trans HG.out HG3.out)).mono ?_; clear c1 c2; rintro e w4 ⟨rfl, hg4⟩; have HG4 : Hid (w0.grownBy w4 none) := grown_trans HG3.out hg4; have c1 := (HB1.out.grow HG4.out).cell (i := 2) rfl; have c2 := (HB2.out.grow HG4.out).cell (i := 2) rfl; clear hg4))
  go_ret
  exact ⟨by first | rfl | simp, grown_trans HG.out HG4.out⟩
/-- what lies in a row of another's own is kept where only a row of one's own is turned -/
theorem OwnP.set {w : World} {base c T : Nat} {l : List Ab.Pc} (h : OwnP w base (.slice (some ⟨T, 0, none⟩) l.length c) l) {i : Nat} (hi : i < l.length) (p : Ab.Pc) : OwnP ((w.setCell ⟨T, i * 2, none⟩ (.bool p.st)).setCell ⟨T, i * 2 + 1, none⟩ (.int .i64 p.n)) base (.slice (some ⟨T, 0, none⟩) l.length c) (l.set i p) := by
  have h1 := (World.ownsRow.stored h (i * 2) (.bool p.st)).1
  have h2 := (World.ownsRow.stored h1 (i * 2 + 1) (.int .i64 p.n)).1
  unfold OwnP
  rw [List.length_set]
  have e : (l.set i p).flatMap cells2 = ((l.flatMap cells2).set (i * 2) (.bool p.st)).set (i * 2 + 1) (.int .i64 p.n) := by
    refine List.ext_getElem? fun q => ?_
    by_cases hq : q / 2 < l.length
    · have hq2 : q = q / 2 * 2 + q % 2 := by omega
      have hlt : q % 2 < 2 := by omega
      rw [List.getElem?_set, List.getElem?_set]
      simp only [List.length_set, flat2_len]
      rw [hq2, flat2_at _ _ _ (by rw [List.length_set]; exact hq) hlt, ← hq2, List.getElem_set]
      by_cases e1 : i * 2 + 1 = q
      · rw [if_pos e1, if_pos (by omega), if_pos (by omega), show q % 2 = 1 by omega]; rfl
      · rw [if_neg e1]
        by_cases e2 : i * 2 = q
        · rw [if_pos e2, if_pos (by omega), if_pos (by omega), show q % 2 = 0 by omega]; rfl
        · rw [if_neg e2, if_neg (by omega), ← flat2_at l (q / 2) (q % 2) hq hlt, ← hq2]
    · rw [List.getElem?_eq_none (by rw [flat2_len, List.length_set]; omega), List.getElem?_eq_none (by simp only [List.length_set, flat2_len]; omega)]
  rw [e]
  exact h2
set_option maxRecDepth 100000 in
set_option maxHeartbeats 4000000 in
theorem spoilP {w : World} {base : Nat} {v : Value} {l : List Ab.Pc} (h : OwnP w base v l) (hl : l.length ≤ 1000) (hb : base ≤ w.heap.size) :
    Calls Try.prog 26 #[v] w fun e w' => e = .returned (.tuple #[]) ∧ w.grownBy w' v.ownBlock := by
  obtain ⟨n, hn⟩ : ∃ n, n = l.length := ⟨_, rfl⟩
  have hn' : (n : Int) ≤ 1000 := by omega
  obtain ⟨a, c, rfl, h1, _, _, h3⟩ := h.slice
  rw [← hn] at h1 h3 h ⊢
  have HL : Hid (n = l.length) := hn
  by_cases h0 : n = 0
  · subst h0
    have hl0 : l = [] := List.length_eq_zero_iff.1 hn.symm
    subst hl0
    have HO : Hid (OwnP w base (.slice a 0 c) []) := h
    clear h hn
    go_enter Try.func26, Try.ntmps26
    go_wp2_with fail
    refine wp_loop_once ?_
    go_wp2_with (at_builtin; refine wp_appP rfl _ _ rfl base (.slice a 0 c) [] ⟨false, 0⟩ rfl HO.out rfl rfl (by simp) hb ?_; intro v' w2 ho2 hg2 hq2)
    go_end0
    exact ⟨rfl, hg2⟩
  · obtain ⟨T, rfl, hT1, hT2⟩ := h3 (by omega)
    have HO : Hid (OwnP w base (.slice (some ⟨T, 0, none⟩) n c) l) := h
    clear h h3 hn
    go_enter Try.func26, Try.ntmps26
    go_wp2_with fail
    go_loopw [2] (fun ix wr => ∃ (k : Nat) (m : List Ab.Pc), ix = .int .i64 k ∧ k ≤ n ∧ m.length = n ∧ OwnP wr base (.slice (some ⟨T, 0, none⟩) n c) m ∧ w.grownBy wr (some T)) (fun ix _ => n - (intOf ix).toNat)
    case atStart => exact ⟨0, l, rfl, Nat.zero_le _, HL.out.symm, HO.out, World.grownBy.refl _ _⟩
    case round =>
      obtain ⟨k, m, rfl, hk, hm, ho, hg⟩ := hrel
      have HO2 : Hid (OwnP wr base (.slice (some ⟨T, 0, none⟩) n c) m) := ho
      have HG : Hid (w.grownBy wr (some T)) := hg
      have HM : Hid (m.length = n) := hm
      have hsz := hg.size
      by_cases hkn : k < n
      · have hkn' : (k : Int) < n := by omega
        obtain ⟨d1, d2⟩ := ho.cell (i := k) (by omega)
        have fr : ∀ i, wr.frozen? ⟨T, i, none⟩ = false := by
          have h6 := hm
          subst h6
          exact fun i => World.ownsRow.frozenAt ho i
        have f1 := fr (k * 2)
        have f2 := fr (k * 2 + 1)
        generalize m[k] = x at d1 d2
        clear ho hg hm fr
        go_wp2
        go_roundw
        case rel =>
          refine ⟨k + 1, m.set k ⟨false, -9⟩, by go_num, by omega, by rw [List.length_set]; exact HM.out, ?_, ?_⟩
          · have h5 := HO2.out
            have h6 := HM.out
            subst h6
            exact h5.set hkn ⟨false, -9⟩
          · exact grown_trans HG.out (grown_trans (grown_set _ _ _ _) (grown_set _ _ _ _))
        case measure => simp [intOf]; omega
      · obtain rfl : k = n := by omega
        clear ho hg hm
        go_wp2_with (at_builtin; refine wp_appP rfl _ _ rfl base (.slice (some ⟨T, 0, none⟩) k c) m ⟨false, 0⟩ rfl HO2.out rfl rfl (by have := HM.out; omega) (by omega) ?_; intro v' w2 ho2 hg2 hq2)
        go_end0
        exact ⟨rfl, grown_trans HG.out hg2⟩
set_option maxRecDepth 100000 in
set_option maxHeartbeats 4000000 in
theorem spoilA {w : World} {base : Nat} {x : Value} {A R : List Ab.Pc} {s : Int} {va vr : Value} (h : AsgO w base x A R s va vr) (hA : A.length ≤ 1000) (hR : R.length ≤ 1000) (hb : base ≤ w.heap.size) :
    Calls Try.prog 13 #[x] w fun e w' => e = .returned (.tuple #[]) ∧ ∃ l, Ch w w' l ∧ ∀ q, q ∈ l → base ≤ q := by
  obtain ⟨rfl, ha, hr, hap⟩ := h
  have H1 : Hid (∀ W, w.grownBy W none → Calls Try.prog 26 #[va] W fun e w' => e = .returned (.tuple #[]) ∧ W.grownBy w' va.ownBlock) := fun W g => spoilP (ha.grow g) hA (Nat.le_trans hb g.size)
  have H2 : Hid (∀ W, Ch w W va.ownBlock.toList → Calls Try.prog 26 #[vr] W fun e w' => e = .returned (.tuple #[]) ∧ W.grownBy w' vr.ownBlock) := fun W g => spoilP (hr.ch g (fun k hk hm => hap k (by simpa using hm) hk)) hR (Nat.le_trans hb g.size)
  have HA : Hid (∀ q, va.ownBlock = some q → base ≤ q ∧ q < w.heap.size) := fun q hq => ⟨ha.base q hq, ha.lt q hq⟩
  have HR : Hid (∀ q, vr.ownBlock = some q → base ≤ q) := hr.base
  obtain ⟨w0, hw0⟩ : ∃ w0, w0 = w.alloc (Obj.cells #[va, vr, .int .i64 s] 31) := ⟨_, rfl⟩
  have HG : Hid (w.grownBy w0 none) := by rw [hw0]; exact World.grownBy_alloc _ _ _
  have HB1 : Hid (Bk w0 w.heap.size 31 [va, vr, .int .i64 s]) := by rw [hw0]; exact Bk.new _ _ _
  have HW0 : Hid (w.alloc (Obj.cells #[va, vr, .int .i64 s] 31) = w0) := hw0.symm
  obtain ⟨aa, ac, hva, _⟩ := ha.slice
  obtain ⟨ra, rc, hvr, _⟩ := hr.slice
  generalize A.length = an at hva
  generalize R.length = rn at hvr
  subst hva hvr
  clear ha hr hap hw0
  go_enter Try.func13, Try.ntmps13
  go_wp2_with (first
    | (go_at_call 26; rw [HW0.out]; refine (H1.out _ HG.out).mono ?_; clear H1; rintro e w3 ⟨rfl, hg3⟩; have HC3 : Hid (Ch w w3 (Value.slice aa an ac).ownBlock.toList) := (Ch.of HG.out).trans (grown_ch hg3); have c1 := (HB1.out.ch (grown_ch hg3) (fun hm => (by have := (HA.out _ (by simpa using hm)).2; omega))).cell (i := 1) rfl; clear hg3)
    | (go_at_call 26; refine (H2.out _ HC3.out).mono ?_; rintro e w4 ⟨rfl, hg4⟩))
  go_end0
  refine ⟨rfl, (Value.slice aa an ac).ownBlock.toList ++ (Value.slice ra rn rc).ownBlock.toList, (HC3.out.mono (fun k _ hk => List.mem_append_left _ hk)).trans ((grown_ch hg4).mono (fun k _ hk => List.mem_append_right _ hk)), fun q hq => ?_⟩
  rw [List.mem_append, Option.mem_toList, Option.mem_toList] at hq
  rcases hq with h | h
  · exact (HA.out q h).1
  · exact HR.out q h
end Go.Proofs.Ytdfjaedafampaaa
