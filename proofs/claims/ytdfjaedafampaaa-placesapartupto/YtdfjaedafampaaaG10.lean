/- EqPlaces, EqAssign; what spoils places. -/
import Derived.Test.YtdfjaedafampaaaAbRefP
namespace Go.Proofs.Ytdfjaedafampaaa
open Go.RowKit
set_option linter.unusedVariables false

/-- places that lie in a row -/
structure PcIn (w : World) (a : Option Addr) (n c : Nat) (P : Nat → Ab.Pc) : Prop where
  le : n ≤ c
  lie : n = 0 ∨ ∃ b off, a = some ⟨b, off, none⟩ ∧ ∀ i, i < n → w.cell? ⟨b, off + i * 2, none⟩ = some (.bool (P i).st) ∧ w.cell? ⟨b, off + i * 2 + 1, none⟩ = some (.int .i64 (P i).n)
theorem PcIn.grow {w w' : World} {a : Option Addr} {n c : Nat} {P : Nat → Ab.Pc} (h : PcIn w a n c P) (g : w.grownBy w' none) : PcIn w' a n c P :=
  ⟨h.le, by
    rcases h.lie with h0 | ⟨b, off, e, hc⟩
    · exact .inl h0
    · exact .inr ⟨b, off, e, fun i hi => ⟨(Ch.of (l := []) g).cell (hc i hi).1 (by simp), (Ch.of (l := []) g).cell (hc i hi).2 (by simp)⟩⟩⟩
def Ab.pc0 : Ab.Pc := ⟨false, 0⟩
theorem OwnP.pcIn {w : World} {base : Nat} {v : Value} {l : List Ab.Pc} (h : OwnP w base v l) : ∃ a c, v = .slice a l.length c ∧ PcIn w a l.length c (fun i => l.getD i Ab.pc0) := by
  obtain ⟨a, c, rfl, h1, _, _, h3⟩ := h.slice
  refine ⟨a, c, rfl, h1, ?_⟩
  by_cases h0 : l.length = 0
  · exact .inl h0
  · obtain ⟨T, rfl, _⟩ := h3 (by omega)
    refine .inr ⟨T, 0, rfl, fun i hi => ?_⟩
    have := h.cell hi
    rw [List.getD_eq_getElem?_getD, List.getElem?_eq_getElem hi]
    simpa using this
set_option maxRecDepth 100000 in
set_option maxHeartbeats 4000000 in
theorem eqPlaces_true {w : World} {a a' : Option Addr} {n c c' : Nat} {P P' : Nat → Ab.Pc} (h : PcIn w a n c P) (h' : PcIn w a' n c' P') (hP : ∀ i, i < n → P i = P' i) (hn : (n : Int) ≤ 1000) :
    Calls Try.prog 17 #[.slice a n c, .slice a' n c'] w fun e w' => e = .returned (.bool true) ∧ w.grownBy w' none := by
  have hle := h.le
  have hle' := h'.le
  have H1 : Hid (∀ W, w.grownBy W none → PcIn W a n c P) := fun W g => h.grow g
  have H2 : Hid (∀ W, w.grownBy W none → PcIn W a' n c' P') := fun W g => h'.grow g
  have HPP : Hid (∀ i, i < n → P i = P' i) := hP
  clear h h' hP
  go_enter Try.func17, Try.ntmps17
  go_wp2_with fail
  go_loopw [5] (fun ix wr => ∃ k : Nat, ix = .int .i64 k ∧ k ≤ n ∧ w.grownBy wr none) (fun ix _ => n - (intOf ix).toNat)
  case atStart => exact ⟨0, rfl, Nat.zero_le _, World.grownBy.refl _ _⟩
  case round =>
    obtain ⟨k, rfl, hk, hg⟩ := hrel
    have HG : Hid (w.grownBy wr none) := hg
    by_cases hkn : k < n
    · have hkn' : (k : Int) < n := by omega
      have q1 := H1.out wr hg
      have q2 := H2.out wr hg
      rcases q1.lie with h0 | ⟨b, off, e1, hc1⟩
      · omega
      rcases q2.lie with h0 | ⟨b', off', e2, hc2⟩
      · omega
      subst e1 e2
      obtain ⟨c1, c2⟩ := hc1 k hkn
      obtain ⟨d1, d2⟩ := hc2 k hkn
      rw [← HPP.out k hkn] at d1 d2
      generalize P k = x at *
      clear hg hc1 hc2 q1 q2
      go_wp2_with fail
      go_quiet (fail)
      go_wp2
      go_roundw
      case rel => exact ⟨k + 1, by go_num, by omega, grown_trans HG.out (grown_drewN (World.grownBy.refl _ none) _)⟩
      case measure => simp [intOf]; omega
    · obtain rfl : k = n := by omega
      clear hg
      go_wp2_with fail
      go_ret
      exact ⟨rfl, HG.out⟩
set_option maxRecDepth 100000 in
set_option maxHeartbeats 4000000 in
theorem eqAssign_true {w : World} {a a' r r' : Option Addr} {n c c' m d d' : Nat} {P P' Q Q' : Nat → Ab.Pc} {s : Int} (h : PcIn w a n c P) (h' : PcIn w a' n c' P') (hP : ∀ i, i < n → P i = P' i) (hn : (n : Int) ≤ 1000) (k : PcIn w r m d Q) (k' : PcIn w r' m d' Q') (hQ : ∀ i, i < m → Q i = Q' i) (hm : (m : Int) ≤ 1000) :
    Calls Try.prog 11 #[.agg #[.slice a n c, .slice r m d, .int .i64 s], .agg #[.slice a' n c', .slice r' m d', .int .i64 s]] w fun e w' => e = .returned (.bool true) ∧ w.grownBy w' none := by
  have H1 : Hid (∀ W, w.grownBy W none → Calls Try.prog 17 #[.slice a n c, .slice a' n c'] W fun e w' => e = .returned (.bool true) ∧ W.grownBy w' none) := fun W g => eqPlaces_true (h.grow g) (h'.grow g) hP hn
  have H2 : Hid (∀ W, w.grownBy W none → Calls Try.prog 17 #[.slice r m d, .slice r' m d'] W fun e w' => e = .returned (.bool true) ∧ W.grownBy w' none) := fun W g => eqPlaces_true (k.grow g) (k'.grow g) hQ hm
  obtain ⟨B, hB⟩ : ∃ B, w.heap.size = B := ⟨_, rfl⟩
  obtain ⟨w0, hw0⟩ : ∃ w0, w0 = (w.alloc (Obj.cells #[.slice a n c, .slice r m d, .int .i64 s] 31)).alloc (Obj.cells #[.slice a' n c', .slice r' m d', .int .i64 s] 31) := ⟨_, rfl⟩
  have HG : Hid (w.grownBy w0 none) := by rw [hw0]; exact ga (World.grownBy_alloc _ _ _) _
  have HB1 : Hid (Bk w0 B 31 [.slice a n c, .slice r m d, .int .i64 s]) := by rw [hw0, ← hB]; exact (Bk.new _ _ _).grow (World.grownBy_alloc _ _ _)
  have HB2 : Hid (Bk w0 (B + 1) 31 [.slice a' n c', .slice r' m d', .int .i64 s]) := by
    rw [hw0, ← hB]
    have hh := Bk.new (w.alloc (Obj.cells #[.slice a n c, .slice r m d, .int .i64 s] 31)) 31 [.slice a' n c', .slice r' m d', .int .i64 s]
    rw [show (w.alloc (Obj.cells #[.slice a n c, .slice r m d, .int .i64 s] 31)).heap.size = w.heap.size + 1 by simp] at hh
    exact hh
  have HW0 : Hid ((w.alloc (Obj.cells #[.slice a n c, .slice r m d, .int .i64 s] 31)).alloc (Obj.cells #[.slice a' n c', .slice r' m d', .int .i64 s] 31) = w0) := hw0.symm
  clear h h' hP k k' hQ hw0
  go_enter Try.func11, Try.ntmps11
  go_wp2_with (first
    | (go_at_call 17; rw [HW0.out]; refine (H1.out _ HG.out).mono ?_; clear H1; rintro e w3 ⟨rfl, hg3⟩; have HG3 : Hid (w0.grownBy w3 none) := hg3; have c1 := (HB1.out.grow hg3).cell (i := 1) rfl; have c2 := (HB2.out.grow hg3).cell (i := 1) rfl; clear hg3)
    | (go_at_call 17; refine (H2.out _ (grown_trans HG.out HG3.out)).mono ?_; clear c1 c2; rintro e w4 ⟨rfl, hg4⟩; have HG4 : Hid (w0.grownBy w4 none) := grown_trans HG3.out hg4; have c1 := (HB1.out.grow HG4.out).cell (i := 2) rfl; have c2 := (HB2.out.grow HG4.out).cell (i := 2) rfl; clear hg4))
  go_ret
  exact ⟨by first | rfl | simp, grown_trans HG.out HG4.out⟩
/-- what lies in a row of another's own is kept where only a row of one's own is turned -/
theorem OwnP.set {w : World} {base c T : Nat} {l : List Ab.Pc} (h : OwnP w base (.slice (some ⟨T, 0, none⟩) l.length c) l) {i : Nat} (hi : i < l.length) (p : Ab.Pc) : OwnP ((w.setCell ⟨T, i * 2, none⟩ (.bool p.st)).setCell ⟨T, i * 2 + 1, none⟩ (.int .i64 p.n)) base (.slice (some ⟨T, 0, none⟩) l.length c) (l.set i p) := by
  have h1 := (World.ownsRow.stored h (i * 2) (.bool p.st)).1
  have h2 := (World.ownsRow.stored h1 (i * 2 + 1) (.int .i64 p.n)).1
  unfold OwnP
  rw [List.length_set]
  have e : (l.set i p).flatMap cells2 = ((l.flatMap cells2).set (i * 2) (.bool p.st)).set (i * 2 + 1) (.int .i64 p.n) := by
    refine List.ext_getElem? fun q => ?_
    by_cases hq : q / 2 < l.length
    · have hq2 : q = q / 2 * 2 + q % 2 := by omega
      have hlt : q % 2 < 2 := by omega
      rw [List.getElem?_set, List.getElem?_set]
      simp only [List.length_set, flat2_len]
      rw [hq2, flat2_at _ _ _ (by rw [List.length_set]; exact hq) hlt, ← hq2, List.getElem_set]
      by_cases e1 : i * 2 + 1 = q
      · rw [if_pos e1, if_pos (by omega), if_pos (by omega), show q % 2 = 1 by omega]; rfl
      · rw [if_neg e1]
        by_cases e2 : i * 2 = q
        · rw [if_pos e2, if_pos (by omega), if_pos (by omega), show q % 2 = 0 by omega]; rfl
        · rw [if_neg e2, if_neg (by omega), ← flat2_at l (q / 2) (q % 2) hq hlt, ← hq2]
    · rw [List.getElem?_eq_none (by rw [flat2_len, List.length_set]; omega), List.getElem?_eq_none (by simp only [List.length_set, flat2_len]; omega)]
  rw [e]
  exact h2
end Go.Proofs.Ytdfjaedafampaaa
