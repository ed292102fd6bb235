/- gantryref11.Places. -/
import Derived.Test.YtdfjaedafampaaaAbRef
namespace Go.Proofs.Ytdfjaedafampaaa
open Go.RowKit
set_option linter.unusedVariables false

set_option maxRecDepth 100000 in
set_option maxHeartbeats 8000000 in
theorem rPlaces11_any {N : Nat} {w : World} {T : Nat → Ty.TyV} {n : Nat} {a : Option Addr} {c : Nat} (h : TysIn N w a n c T) (hN : N ≤ w.heap.size) {M : Nat} {la ra : Option Addr} {m lc r rc : Nat} {L R : Nat → Int} (hL : NumIn M w la m lc L) (hR : NumIn M w ra r rc R) (hm1 : (m : Int) ≤ 100) (hr1 : (r : Int) ≤ 100) :
    Calls Try.prog 9 #[.slice a n c, .slice la m lc, .slice ra r rc] w fun e w' => ∃ x va vr, e = .returned (.tuple #[x, .int .i64 (Ab.err T n L m R r)]) ∧ AsgO w' w.heap.size x (Ab.lA T n L m R r) (Ab.lR T n L m R r) (Ab.sN T n L m R r) va vr ∧ w.grownBy w' none := by
  have HCk : Hid (∀ W, w.grownBy W none → Calls Try.prog 22 #[.slice a n c] W fun e w' => e = .returned (.int .i64 (Ty.chk T n)) ∧ W.grownBy w' none) := fun W hW => rCheck_any (h.grow hW)
  have HC1 : Hid (Ty.chk T n = 0 → ∀ W, w.grownBy W none → Calls Try.prog 23 #[.slice a n c, .slice la m lc] W fun e w' => e = .returned (.bool (Ab.okB T n L m)) ∧ W.grownBy w' none) := fun hc W hW => rmay11_any (h.grow hW) (Nat.le_trans hN hW.size) hc (hL.grow hW) hm1
  have HC2 : Hid (Ty.chk T n = 0 → ∀ W, w.grownBy W none → Calls Try.prog 23 #[.slice a n c, .slice ra r rc] W fun e w' => e = .returned (.bool (Ab.okB T n R r)) ∧ W.grownBy w' none) := fun hc W hW => rmay11_any (h.grow hW) (Nat.le_trans hN hW.size) hc (hR.grow hW) hr1
  have HP1 : Hid (Ty.chk T n = 0 → Ab.okB T n L m = true → ∀ W, w.grownBy W none → Calls Try.prog 24 #[.slice a n c, .slice la m lc, .int .i64 0] W fun e w' => ∃ v, e = .returned (.tuple #[v, .int .i64 ((Ab.gA T L m).s : Int)]) ∧ OwnP w' W.heap.size v (Ab.gA T L m).l ∧ W.grownBy w' none) := fun hc ho W hW => rplaces11_any (h.grow hW) (Nat.le_trans hN hW.size) hc (hL.grow hW) ho (s0 := 0) (by omega)
  have HP2 : Hid (Ty.chk T n = 0 → Ab.okB T n L m = true → Ab.okB T n R r = true → ∀ W q, Ch w W [q] → w.heap.size ≤ q → Calls Try.prog 24 #[.slice a n c, .slice ra r rc, .int .i64 ((Ab.gA T L m).s : Int)] W fun e w' => ∃ v, e = .returned (.tuple #[v, .int .i64 ((Ab.gR T L m R r).s : Int)]) ∧ OwnP w' W.heap.size v (Ab.gR T L m R r).l ∧ W.grownBy w' none) := fun hc h1 ho W q hW hq => rplaces11_any (h.grow (hW.nil (fun k hk => by simp at hk; omega))) (Nat.le_trans hN hW.size) hc (hR.grow (hW.nil (fun k hk => by simp at hk; omega))) ho (s0 := (Ab.gA T L m).s) (by
    have := (Ab.go_b (s0 := 0) (Ab.kw_le hc h1)).2.2.1
    have := (Ab.ok_iff.1 h1).1
    show (Ab.go (Ab.kw T L) 0 m).s ≤ 200
    omega)
  have h1 := h.le
  have h2 := hL.le
  have h3 := hR.le
  obtain ⟨B, hB⟩ : ∃ B, w.heap.size = B := ⟨_, rfl⟩
  obtain ⟨w0, hw0⟩ : ∃ w0, w0 = w.alloc (Obj.cells #[.slice none 0 0, .slice none 0 0, .int .i64 0] 31) := ⟨_, rfl⟩
  have hg0 : w.grownBy w0 none := by rw [hw0]; exact World.grownBy_alloc _ _ _
  have hB0 : Bk w0 B 31 [.slice none 0 0, .slice none 0 0, .int .i64 0] := by rw [hw0, ← hB]; exact Bk.new _ _ _
  have HB : Hid (w.heap.size = B) := hB
  have HG0 : Hid (w.grownBy w0 none) := hg0
  have HB0 : Hid (Bk w0 B 31 [.slice none 0 0, .slice none 0 0, .int .i64 0]) := hB0
  have HE : Hid (∀ W, w0.grownBy W none → w.grownBy (put3 W B (.slice none 0 0) (.slice none 0 0) (.int .i64 0)) none) := fun W g => (((Ch.of (l := [B]) (grown_trans hg0 g)).trans (ch_put3 _ _ _ _ _)).nil (fun q hq => by simp at hq; omega))
  have HW0 : Hid (w.alloc (Obj.cells #[.slice none 0 0, .slice none 0 0, .int .i64 0] 31) = w0) := hw0.symm
  clear h hL hR hg0 hB0
  by_cases hc : Ty.chk T n = 0
  · by_cases hok : Ab.okB T n L m = true ∧ Ab.okB T n R r = true
    · have e1 : Ab.err T n L m R r = 0 := Ab.err_ok hc hok.1 hok.2
      have e2 : Ab.lA T n L m R r = (Ab.gA T L m).l := if_pos e1
      have e3 : Ab.lR T n L m R r = (Ab.gR T L m R r).l := if_pos e1
      have e4 : Ab.sN T n L m R r = ((Ab.gR T L m R r).s : Int) := if_pos e1
      rw [e1, e2, e3, e4, hB]
      have D1 := HC1.out hc
      have D2 := HC2.out hc
      rw [hok.1] at D1
      rw [hok.2] at D2
      rw [hc] at HCk
      have E1 : Hid (∀ W, w.grownBy W none → Calls Try.prog 23 #[.slice a n c, .slice la m lc] W fun e w' => e = .returned (.bool true) ∧ W.grownBy w' none) := D1
      have E2 : Hid (∀ W, w.grownBy W none → Calls Try.prog 23 #[.slice a n c, .slice ra r rc] W fun e w' => e = .returned (.bool true) ∧ W.grownBy w' none) := D2
      have D3 : Hid (∀ W, w.grownBy W none → Calls Try.prog 24 #[.slice a n c, .slice la m lc, .int .i64 0] W fun e w' => ∃ v, e = .returned (.tuple #[v, .int .i64 ((Ab.gA T L m).s : Int)]) ∧ OwnP w' W.heap.size v (Ab.gA T L m).l ∧ W.grownBy w' none) := HP1.out hc hok.1
      have D4 : Hid (∀ W q, Ch w W [q] → w.heap.size ≤ q → Calls Try.prog 24 #[.slice a n c, .slice ra r rc, .int .i64 ((Ab.gA T L m).s : Int)] W fun e w' => ∃ v, e = .returned (.tuple #[v, .int .i64 ((Ab.gR T L m R r).s : Int)]) ∧ OwnP w' W.heap.size v (Ab.gR T L m R r).l ∧ W.grownBy w' none) := HP2.out hc hok.1 hok.2
      clear HP1 HP2
      clear D1 D2 e1 e2 e3 e4 hw0 HC1 HC2 hok hc HE
      generalize Ab.gA T L m = GA at *
      generalize Ab.gR T L m R r = GR at *
      go_enter Try.func9, Try.ntmps9
      go_wp2_with (first
        | (go_at_call 22; rw [HW0.out]; refine (HCk.out _ HG0.out).mono ?_; rintro e w3 ⟨rfl, hg3⟩; have HG3 : Hid (w0.grownBy w3 none) := hg3; clear hg3)
        | (go_at_call 23; refine (E1.out _ (grown_trans HG0.out HG3.out)).mono ?_; clear E1; rintro e w4 ⟨rfl, hg4⟩; have HG4 : Hid (w0.grownBy w4 none) := grown_trans HG3.out hg4; clear hg4)
        | (go_at_call 23; refine (E2.out _ (grown_trans HG0.out HG4.out)).mono ?_; rintro e w5 ⟨rfl, hg5⟩; have HG5 : Hid (w0.grownBy w5 none) := grown_trans HG4.out hg5; have hw5 : w.heap.size ≤ w5.heap.size := Nat.le_trans HG0.out.size HG5.out.size; clear hg5)
        | (go_at_call 24; refine (D3.out _ (grown_trans (grown_trans HG0.out HG5.out) (World.grownBy_alloc _ _ _))).mono ?_; clear D3; rintro e w7 ⟨va, rfl, ho7, hg7⟩; have HK7 : Hid (Bk w7 w5.heap.size 31 [.slice none 0 0, .slice none 0 0, .int .i64 0]) := (Bk.new w5 31 [.slice none 0 0, .slice none 0 0, .int .i64 0]).grow hg7; have HC7 : Hid (Ch w5 w7 [w5.heap.size]) := Ch.of (grown_trans (World.grownBy_alloc _ _ _) hg7); have y0 := HK7.out.cell (i := 0) rfl; have y1 := HK7.out.cell (i := 1) rfl; have y2 := HK7.out.cell (i := 2) rfl; have g0 := HK7.out.frozen 0; have g1 := HK7.out.frozen 1; have g2 := HK7.out.frozen 2; obtain ⟨pa, pc, hva, _⟩ := ho7.slice; have ho8 : OwnP w7 (w5.heap.size + 1) va GA.l := (by simpa using ho7); have HO7 : Hid (OwnP w7 (w5.heap.size + 1) va GA.l) := ho8; clear ho8; generalize GA.l.length = gl at hva; subst hva; clear hg7 ho7)
        | (go_at_call 24; refine (D4.out _ w5.heap.size ((Ch.of (grown_trans HG0.out HG5.out)).trans ((HC7.out.trans (Ch.one (grown_set _ _ _ _) (by simp))).trans (Ch.one (grown_set _ _ _ _) (by simp)))) hw5).mono ?_; clear D4; rintro e w9 ⟨vr, rfl, ho9, hg9⟩; have HK9 : Hid (Bk w9 w5.heap.size 31 [.slice pa gl pc, .slice none 0 0, .int .i64 (GA.s : Int)]) := ((HK7.out.set 0 (.slice pa gl pc)).set 2 (.int .i64 (GA.s : Int))).grow hg9; have HC9 : Hid (Ch w5 w9 [w5.heap.size]) := ((HC7.out.trans (Ch.one (grown_set _ _ _ _) (by simp))).trans (Ch.one (grown_set _ _ _ _) (by simp))).trans (Ch.of hg9); have HB9 : Hid (Bk w9 B 31 [.slice none 0 0, .slice none 0 0, .int .i64 0]) := (HB0.out.grow HG5.out).ch HC9.out (by simp; have := (HB0.out.grow HG5.out).lt; omega); clear y0 y1 y2 g0 g1 g2; have y0 := HK9.out.cell (i := 0) rfl; have y1 := HK9.out.cell (i := 1) rfl; have y2 := HK9.out.cell (i := 2) rfl; have g0 := HK9.out.frozen 0; have g1 := HK9.out.frozen 1; have g2 := HK9.out.frozen 2; obtain ⟨qa, qc, hvr, _⟩ := ho9.slice; have ho10 : OwnP w9 w7.heap.size vr GR.l := (by simpa using ho9); have HO9 : Hid (OwnP w9 w7.heap.size vr GR.l) := ho10; have HO79 : Hid (OwnP w9 (w5.heap.size + 1) (.slice pa gl pc) GA.l) := (HO7.out.ch (l := [w5.heap.size]) ((Ch.one (grown_set _ _ _ _) (by simp)).trans (Ch.one (grown_set _ _ _ _) (by simp))) (fun q hq hm => (by have := HO7.out.base q hq; simp at hm; omega))).grow hg9; generalize GR.l.length = gr at hvr; subst hvr; clear hg9 ho9 ho10; obtain ⟨z0, z1, z2, f0, f1, f2⟩ : w9.cell? ⟨B, 0, none⟩ = some (.slice none 0 0) ∧ w9.cell? ⟨B, 1, none⟩ = some (.slice none 0 0) ∧ w9.cell? ⟨B, 2, none⟩ = some (.int .i64 0) ∧ w9.frozen? ⟨B, 0, none⟩ = false ∧ w9.frozen? ⟨B, 1, none⟩ = false ∧ w9.frozen? ⟨B, 2, none⟩ = false := ⟨HB9.out.cell rfl, HB9.out.cell rfl, HB9.out.cell rfl, HB9.out.frozen 0, HB9.out.frozen 1, HB9.out.frozen 2⟩; have hBB : B < w5.heap.size := (HB0.out.grow HG5.out).lt))
      change bodyPost _ _ _ _ _ (put3 ((w9.setCell ⟨w5.heap.size, 1, none⟩ (.slice qa gr qc)).setCell ⟨w5.heap.size, 2, none⟩ (.int .i64 (GR.s : Int))) B (.slice pa gl pc) (.slice qa gr qc) (.int .i64 (GR.s : Int)))
      have c10 : Ch w9 ((w9.setCell ⟨w5.heap.size, 1, none⟩ (.slice qa gr qc)).setCell ⟨w5.heap.size, 2, none⟩ (.int .i64 (GR.s : Int))) [w5.heap.size] := (Ch.one (grown_set _ _ _ _) (by simp)).trans (Ch.one (grown_set _ _ _ _) (by simp))
      obtain ⟨W10, hW10⟩ : ∃ W10, W10 = (w9.setCell ⟨w5.heap.size, 1, none⟩ (.slice qa gr qc)).setCell ⟨w5.heap.size, 2, none⟩ (.int .i64 (GR.s : Int)) := ⟨_, rfl⟩
      rw [← hW10] at c10 ⊢
      have hK := (HB9.out.ch c10 (by simp; omega)).put3 (.slice pa gl pc) (.slice qa gr qc) (.int .i64 (GR.s : Int))
      have q0 := hK.cell (i := 0) rfl
      have q1 := hK.cell (i := 1) rfl
      have q2 := hK.cell (i := 2) rfl
      have c11 : Ch w9 (put3 W10 B (.slice pa gl pc) (.slice qa gr qc) (.int .i64 (GR.s : Int))) [w5.heap.size, B] := (c10.mono (fun k _ hk => by simp at hk ⊢; exact .inl hk)).trans ((ch_put3 _ _ _ _ _).mono (fun k _ hk => by simp at hk ⊢; exact .inr hk))
      have hBw := HB.out
      have c12 := HC9.out.size
      have hs7 := HK7.out.lt
      have hs79 := HO9.out.base
      have hs0 := HG0.out.size
      have hs5 := HG5.out.size
      refine bodyPost_ret (by simp [results, Try.results9, go_sem, q0, q1, q2]; try rfl) rfl ?_
      refine ⟨_, .slice pa gl pc, .slice qa gr qc, rfl, ⟨rfl, ?_, ?_, ?_⟩, ?_⟩
      · exact (HO79.out.ch c11 (fun q hq hm => by have := HO79.out.base q hq; simp at hm; omega)).low (by omega)
      · exact (HO9.out.ch c11 (fun q hq hm => by have := HO9.out.base q hq; simp at hm; omega)).low (by omega)
      · intro q hq hq2
        have h5 := HO9.out.base q hq2
        have h6 := HO7.out.lt q hq
        omega
      · refine ((Ch.of (l := [w5.heap.size, B]) (grown_trans HG0.out HG5.out)).trans ((HC9.out.mono (fun k _ hk => by simp at hk ⊢; exact .inl hk)).trans c11)).nil (fun q hq => by simp at hq; omega)
    · have e1 : Ab.err T n L m R r = 120 := by unfold Ab.err; rw [if_neg (by simpa using hc), if_neg hok]
      have e2 : Ab.lA T n L m R r = [] := if_neg (by rw [e1]; decide)
      have e3 : Ab.lR T n L m R r = [] := if_neg (by rw [e1]; decide)
      have e4 : Ab.sN T n L m R r = 0 := if_neg (by rw [e1]; decide)
      rw [e1, e2, e3, e4, hB]
      have D1 := HC1.out hc
      have D2 := HC2.out hc
      rw [hc] at HCk
      obtain ⟨O1, hO1⟩ : ∃ b, b = Ab.okB T n L m := ⟨_, rfl⟩
      obtain ⟨O2, hO2⟩ : ∃ b, b = Ab.okB T n R r := ⟨_, rfl⟩
      rw [← hO1] at D1 hok
      rw [← hO2] at D2 hok
      have E1 : Hid (∀ W, w.grownBy W none → Calls Try.prog 23 #[.slice a n c, .slice la m lc] W fun e w' => e = .returned (.bool O1) ∧ W.grownBy w' none) := D1
      have E2 : Hid (∀ W, w.grownBy W none → Calls Try.prog 23 #[.slice a n c, .slice ra r rc] W fun e w' => e = .returned (.bool O2) ∧ W.grownBy w' none) := D2
      clear HP1 HP2
      clear D1 D2 e1 e2 e3 e4 hw0 HC1 HC2 hO1 hO2 hc
      cases O1
      · clear hok E2
        go_enter Try.func9, Try.ntmps9
        go_wp2_with (first
          | (go_at_call 22; rw [HW0.out]; refine (HCk.out _ HG0.out).mono ?_; rintro e w3 ⟨rfl, hg3⟩; have HG3 : Hid (w0.grownBy w3 none) := hg3; clear hg3)
          | (go_at_call 23; refine (E1.out _ (grown_trans HG0.out HG3.out)).mono ?_; clear E1; rintro e w4 ⟨rfl, hg4⟩; have HG4 : Hid (w0.grownBy w4 none) := grown_trans HG3.out hg4; clear hg4; have HB3 : Hid (Bk w4 B 31 [.slice none 0 0, .slice none 0 0, .int .i64 0]) := HB0.out.grow HG4.out; have z0 := HB3.out.cell (i := 0) rfl; have z1 := HB3.out.cell (i := 1) rfl; have z2 := HB3.out.cell (i := 2) rfl; have f0 := HB3.out.frozen 0; have f1 := HB3.out.frozen 1; have f2 := HB3.out.frozen 2))
        change bodyPost _ _ _ _ _ (put3 w4 B (.slice none 0 0) (.slice none 0 0) (.int .i64 0))
        have q0 := (HB3.out.put3 (.slice none 0 0) (.slice none 0 0) (.int .i64 0)).cell (i := 0) rfl
        have q1 := (HB3.out.put3 (.slice none 0 0) (.slice none 0 0) (.int .i64 0)).cell (i := 1) rfl
        have q2 := (HB3.out.put3 (.slice none 0 0) (.slice none 0 0) (.int .i64 0)).cell (i := 2) rfl
        refine bodyPost_ret (by simp [results, Try.results9, go_sem, q0, q1, q2]; try rfl) rfl ?_
        exact ⟨_, _, _, rfl, asg0 _ _, HE.out w4 HG4.out⟩
      · cases O2
        case true => exact absurd ⟨rfl, rfl⟩ hok
        clear hok
        go_enter Try.func9, Try.ntmps9
        go_wp2_with (first
          | (go_at_call 22; rw [HW0.out]; refine (HCk.out _ HG0.out).mono ?_; rintro e w3 ⟨rfl, hg3⟩; have HG3 : Hid (w0.grownBy w3 none) := hg3; clear hg3)
          | (go_at_call 23; refine (E1.out _ (grown_trans HG0.out HG3.out)).mono ?_; clear E1; rintro e w4 ⟨rfl, hg4⟩; have HG4 : Hid (w0.grownBy w4 none) := grown_trans HG3.out hg4; clear hg4)
          | (go_at_call 23; refine (E2.out _ (grown_trans HG0.out HG4.out)).mono ?_; rintro e w5 ⟨rfl, hg5⟩; have HG5 : Hid (w0.grownBy w5 none) := grown_trans HG4.out hg5; clear hg5; have HB3 : Hid (Bk w5 B 31 [.slice none 0 0, .slice none 0 0, .int .i64 0]) := HB0.out.grow HG5.out; have z0 := HB3.out.cell (i := 0) rfl; have z1 := HB3.out.cell (i := 1) rfl; have z2 := HB3.out.cell (i := 2) rfl; have f0 := HB3.out.frozen 0; have f1 := HB3.out.frozen 1; have f2 := HB3.out.frozen 2))
        change bodyPost _ _ _ _ _ (put3 w5 B (.slice none 0 0) (.slice none 0 0) (.int .i64 0))
        have q0 := (HB3.out.put3 (.slice none 0 0) (.slice none 0 0) (.int .i64 0)).cell (i := 0) rfl
        have q1 := (HB3.out.put3 (.slice none 0 0) (.slice none 0 0) (.int .i64 0)).cell (i := 1) rfl
        have q2 := (HB3.out.put3 (.slice none 0 0) (.slice none 0 0) (.int .i64 0)).cell (i := 2) rfl
        refine bodyPost_ret (by simp [results, Try.results9, go_sem, q0, q1, q2]; try rfl) rfl ?_
        exact ⟨_, _, _, rfl, asg0 _ _, HE.out w5 HG5.out⟩
  · have e1 : Ab.err T n L m R r = Ty.chk T n := if_pos hc
    have e2 : Ab.lA T n L m R r = [] := if_neg (by rw [e1]; exact hc)
    have e3 : Ab.lR T n L m R r = [] := if_neg (by rw [e1]; exact hc)
    have e4 : Ab.sN T n L m R r = 0 := if_neg (by rw [e1]; exact hc)
    rw [e1, e2, e3, e4, hB]
    have hz : (Ty.chk T n != 0) = true := by simpa using hc
    generalize Ty.chk T n = E at *
    clear e1 e2 e3 e4 hw0 HC1 HC2 HP1 HP2
    go_enter Try.func9, Try.ntmps9
    go_wp2_with (go_at_call 22; rw [HW0.out]; refine (HCk.out _ HG0.out).mono ?_; rintro e w3 ⟨rfl, hg3⟩; have HB3 : Hid (Bk w3 B 31 [.slice none 0 0, .slice none 0 0, .int .i64 0]) := HB0.out.grow hg3; have z0 := HB3.out.cell (i := 0) rfl; have z1 := HB3.out.cell (i := 1) rfl; have z2 := HB3.out.cell (i := 2) rfl; have f0 := HB3.out.frozen 0; have f1 := HB3.out.frozen 1; have f2 := HB3.out.frozen 2)
    change bodyPost _ _ _ _ _ (put3 w3 B (.slice none 0 0) (.slice none 0 0) (.int .i64 0))
    have q0 := (HB3.out.put3 (.slice none 0 0) (.slice none 0 0) (.int .i64 0)).cell (i := 0) rfl
    have q1 := (HB3.out.put3 (.slice none 0 0) (.slice none 0 0) (.int .i64 0)).cell (i := 1) rfl
    have q2 := (HB3.out.put3 (.slice none 0 0) (.slice none 0 0) (.int .i64 0)).cell (i := 2) rfl
    refine bodyPost_ret (by simp [results, Try.results9, go_sem, q0, q1, q2]; try rfl) rfl ?_
    exact ⟨_, _, _, rfl, asg0 _ _, HE.out w3 hg3⟩
end Go.Proofs.Ytdfjaedafampaaa
