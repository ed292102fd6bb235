/- flow: the least semi above. -/
import Derived.Test.YtbpdggdpgohilaaG10
import Derived.Test.YtbpdggdpgohilaaFlNw
namespace Go.Proofs.Ytbpdggdpgohilaa
open Go.RowKit
set_option linter.unusedVariables false
set_option maxRecDepth 100000
set_option maxHeartbeats 8000000

/-- what the closure has caught -/
structure LsF (W : World) (UP LP FP U Lo m uc lc : Nat) : Prop where
  u : Bk W UP 24 [.slice (some ⟨U, 0, none⟩) m uc]
  l : Bk W LP 24 [.slice (some ⟨Lo, 0, none⟩) m lc]
  f : Bk W FP 79 [.func (.func 43) #[] #[.pointer (some ⟨UP, 0, none⟩), .pointer (some ⟨LP, 0, none⟩), .pointer (some ⟨FP, 0, none⟩)]]
theorem LsF.ch {W W' : World} {UP LP FP U Lo m uc lc : Nat} {q : List Nat} (h : LsF W UP LP FP U Lo m uc lc) (g : Ch W W' q) (h1 : UP ∉ q) (h2 : LP ∉ q) (h3 : FP ∉ q) : LsF W' UP LP FP U Lo m uc lc := ⟨h.u.ch g h1, h.l.ch g h2, h.f.ch g h3⟩
theorem LsF.grow {W W' : World} {UP LP FP U Lo m uc lc : Nat} (h : LsF W UP LP FP U Lo m uc lc) (g : W.grownBy W' none) : LsF W' UP LP FP U Lo m uc lc := ⟨h.u.grow g, h.l.grow g, h.f.grow g⟩
theorem LsF.ne {W : World} {UP LP FP U Lo m uc lc bs : Nat} {g1 g2 : Nat → Int} (h : LsF W UP LP FP U Lo m uc lc) (hU : OwnN W bs (.slice (some ⟨U, 0, none⟩) m uc) m g1) (hL : OwnN W bs (.slice (some ⟨Lo, 0, none⟩) m lc) m g2) : (UP ≠ U ∧ UP ≠ Lo) ∧ (LP ≠ U ∧ LP ≠ Lo) ∧ (FP ≠ U ∧ FP ≠ Lo) :=
  ⟨⟨ownN_ne hU h.u (by decide), ownN_ne hL h.u (by decide)⟩, ⟨ownN_ne hU h.l (by decide), ownN_ne hL h.l (by decide)⟩, ⟨ownN_ne hU h.f (by decide), ownN_ne hL h.f (by decide)⟩⟩
theorem flLeast_any {m U Lo uc lc UP LP FP : Nat} (hUL : U ≠ Lo) : ∀ (f : Nat) {w : World} {bs n : Nat} {known : Int} {s : Sa.Fo}, n < f → n < m → 0 ≤ known → (∀ j : Nat, s.up j < (j : Int)) → OwnN w bs (.slice (some ⟨U, 0, none⟩) m uc) m s.up → OwnN w bs (.slice (some ⟨Lo, 0, none⟩) m lc) m s.low → LsF w UP LP FP U Lo m uc lc → Calls Try.prog 43 #[.int .i64 (n : Int), .int .i64 known, .pointer (some ⟨UP, 0, none⟩), .pointer (some ⟨LP, 0, none⟩), .pointer (some ⟨FP, 0, none⟩)] w fun r w' => r = .returned (.int .i64 (Sa.least f n known s).1) ∧ OwnN w' bs (.slice (some ⟨U, 0, none⟩) m uc) m (Sa.least f n known s).2.up ∧ OwnN w' bs (.slice (some ⟨Lo, 0, none⟩) m lc) m (Sa.least f n known s).2.low ∧ Ch w w' [U, Lo]
  | 0, _, _, _, _, _, hf, _, _, _, _, _, _ => by omega
  | f + 1, w, bs, n, known, s, hf, hn, hk, hs, hU, hL, hF => by
    obtain ⟨R, hR⟩ : ∃ R, R = Sa.least (f + 1) n known s := ⟨_, rfl⟩
    have HR : Hid (R = (if (n : Int) ≤ known then ((n : Int), s) else if s.up n > known then (min (s.low n) (Sa.least f (s.up n) known s).1, ⟨setF (Sa.least f (s.up n) known s).2.up n ((Sa.least f (s.up n) known s).2.up (s.up n).toNat), setF (Sa.least f (s.up n) known s).2.low n (min (s.low n) (Sa.least f (s.up n) known s).1)⟩) else (s.low n, s))) := by show R = _; rw [hR]; rfl
    rw [← hR]
    clear hR
    have HU : Hid (OwnN w bs (.slice (some ⟨U, 0, none⟩) m uc) m s.up) := hU
    have HL : Hid (OwnN w bs (.slice (some ⟨Lo, 0, none⟩) m lc) m s.low) := hL
    have HF : Hid (LsF w UP LP FP U Lo m uc lc) := hF
    obtain ⟨⟨n1, n2⟩, ⟨n3, n4⟩, n5, n6⟩ := hF.ne hU hL
    have HNe : Hid ((UP ≠ U ∧ UP ≠ Lo) ∧ (LP ≠ U ∧ LP ≠ Lo) ∧ (FP ≠ U ∧ FP ≠ Lo)) := ⟨⟨n1, n2⟩, ⟨n3, n4⟩, n5, n6⟩
    have x1 := hF.u.cell (i := 0) rfl
    have x2 := hF.l.cell (i := 0) rfl
    have x3 := hF.f.cell (i := 0) rfl
    have hnI : (n : Int) < (m : Int) := by omega
    clear n1 n2 n3 n4 n5 n6
    by_cases h1 : (n : Int) ≤ known
    case pos =>
      have HR2 : Hid (R = ((n : Int), s)) := by show R = _; rw [HR.out, if_pos h1]
      clear HR hU hL hF
      go_enter Try.func43, Try.ntmps43
      go_wp2
      go_ret
      exact ⟨by rw [HR2.out]; rfl, by rw [HR2.out]; exact HU.out, by rw [HR2.out]; exact HL.out, Ch.refl _ _⟩
    have cU := hU.cell hn
    have cL := hL.cell hn
    by_cases h2 : s.up n > known
    case neg =>
      have HR2 : Hid (R = (s.low n, s)) := by show R = _; rw [HR.out, if_neg h1, if_neg h2]
      have h1' : known < (n : Int) := by omega
      have h2' : s.up n ≤ known := by omega
      clear HR hU hL hF
      go_enter Try.func43, Try.ntmps43
      go_wp2
      go_ret
      exact ⟨by rw [HR2.out]; rfl, by rw [HR2.out]; exact HU.out, by rw [HR2.out]; exact HL.out, Ch.refl _ _⟩
    obtain ⟨p, hp⟩ : ∃ p : Nat, s.up n = (p : Int) := ⟨(s.up n).toNat, by omega⟩
    have hpn := hs n
    have hpn : p < n := by omega
    have hpk : known < (p : Int) := by omega
    have hnk : known < (n : Int) := by omega
    have hpI : (p : Int) < (m : Int) := by omega
    have gd : w.grownBy w.drew none := grown_drew (World.grownBy.refl _ _)
    have HIh : Hid (Calls Try.prog 43 #[.int .i64 (p : Int), .int .i64 known, .pointer (some ⟨UP, 0, none⟩), .pointer (some ⟨LP, 0, none⟩), .pointer (some ⟨FP, 0, none⟩)] w.drew fun r w' => r = .returned (.int .i64 (Sa.least f p known s).1) ∧ OwnN w' bs (.slice (some ⟨U, 0, none⟩) m uc) m (Sa.least f p known s).2.up ∧ OwnN w' bs (.slice (some ⟨Lo, 0, none⟩) m lc) m (Sa.least f p known s).2.low ∧ Ch w.drew w' [U, Lo]) := flLeast_any hUL f (by omega) (by omega) hk hs (HU.out.grow gd) (HL.out.grow gd) (HF.out.grow gd)
    have hkeep := (Sa.least_keeps (f := f) (n := (p : Int)) (known := known) (s := s) hk hs).1 n (by omega)
    have HR2 : Hid (R = (min (s.low n) (Sa.least f p known s).1, ⟨setF (Sa.least f p known s).2.up n ((Sa.least f p known s).2.up p), setF (Sa.least f p known s).2.low n (min (s.low n) (Sa.least f p known s).1)⟩)) := by show R = _; rw [HR.out, if_neg h1, if_pos h2, hp, Int.toNat_natCast]
    obtain ⟨r, hr⟩ : ∃ r, r = Sa.least f p known s := ⟨_, rfl⟩
    rw [← hr] at HIh hkeep HR2
    obtain ⟨v, u2, l2⟩ := r
    have HKp : Hid (l2 n = s.low n ∧ u2 n = (p : Int)) := ⟨hkeep.1, hkeep.2.trans hp⟩
    obtain ⟨mv, hmv⟩ : ∃ mv, mv = min (s.low n) v := ⟨_, rfl⟩
    rw [← hmv] at HR2
    have hmin : ∀ W, (Builtin.min_ #[3, 3] 3 #[.int .i64 (s.low n), .int .i64 v]).run Try.prog W = .ok (.int .i64 mv) W := fun W => by
      rw [run_min_int2, hmv]
      congr 2
      split <;> omega
    have xL : w.drew.cell? ⟨Lo, n, none⟩ = some (.int .i64 (s.low n)) := (HL.out.grow gd).cell hn
    have xU : w.drew.cell? ⟨U, n, none⟩ = some (.int .i64 (p : Int)) := by rw [← hp]; exact (HU.out.grow gd).cell hn
    have HX : Hid (∀ W, (Ch w.drew W [U, Lo] ∧ (w.drew.cell? ⟨Lo, n, none⟩ = some (.int .i64 (s.low n)) → W.cell? ⟨Lo, n, none⟩ = some (.int .i64 (s.low n))) ∧ (w.drew.cell? ⟨U, n, none⟩ = some (.int .i64 (p : Int)) → W.cell? ⟨U, n, none⟩ = some (.int .i64 (p : Int)))) → W.cell? ⟨Lo, n, none⟩ = some (.int .i64 (s.low n)) ∧ W.cell? ⟨U, n, none⟩ = some (.int .i64 (p : Int)) ∧ W.cell? ⟨UP, 0, none⟩ = some (.slice (some ⟨U, 0, none⟩) m uc) ∧ W.cell? ⟨LP, 0, none⟩ = some (.slice (some ⟨Lo, 0, none⟩) m lc) ∧ W.cell? ⟨FP, 0, none⟩ = some (.func (.func 43) #[] #[.pointer (some ⟨UP, 0, none⟩), .pointer (some ⟨LP, 0, none⟩), .pointer (some ⟨FP, 0, none⟩)])) := fun W g => by
      have g1 := (HF.out.grow gd).ch g.1 (by simp [HNe.out.1.1, HNe.out.1.2]) (by simp [HNe.out.2.1.1, HNe.out.2.1.2]) (by simp [HNe.out.2.2.1, HNe.out.2.2.2])
      exact ⟨g.2.1 xL, g.2.2 xU, g1.u.cell (i := 0) rfl, g1.l.cell (i := 0) rfl, g1.f.cell (i := 0) rfl⟩
    clear xL xU
    rw [hp] at cU
    have HGd : Hid (w.grownBy w.drew none) := gd
    clear HR hr hkeep h1 h2 hp hmv gd hU hL hF
    go_enter Try.func43, Try.ntmps43
    go_wp2_with fail
    clear cU cL x1 x2 x3
    refine region_lu (fun w w' => Ch w w' [U, Lo] ∧ (w.cell? ⟨Lo, n, none⟩ = some (.int .i64 (s.low n)) → w'.cell? ⟨Lo, n, none⟩ = some (.int .i64 (s.low n))) ∧ (w.cell? ⟨U, n, none⟩ = some (.int .i64 (p : Int)) → w'.cell? ⟨U, n, none⟩ = some (.int .i64 (p : Int)))) (fun w w' => w' = w) (fun W => W = w.drew) 12 (fun h1 h2 => ⟨h1.1.trans h2.1, fun h => h2.2.1 (h1.2.1 h), fun h => h2.2.2 (h1.2.2 h)⟩) (fun w => rfl) (fun h => by rw [h]; exact ⟨Ch.refl _ _, id, id⟩) (fun g h => g.trans h) 14 [.val (.slice (some ⟨Lo, 0, none⟩) m lc), .val (.int .i64 n), .val (.slice (some ⟨Lo, 0, none⟩) m lc), .val (.int .i64 n), .val (.pointer (some ⟨Lo, n, none⟩)), .val (.int .i64 (s.low n)), .val (.func (.func 43) #[] #[.pointer (some ⟨UP, 0, none⟩), .pointer (some ⟨LP, 0, none⟩), .pointer (some ⟨FP, 0, none⟩)]), .val (.slice (some ⟨U, 0, none⟩) m uc), .val (.int .i64 n), .val (.pointer (some ⟨U, n, none⟩)), .val (.int .i64 p), .val (.int .i64 known), .prop (fun e w9 => e = .int .i64 v ∧ OwnN w9 bs (.slice (some ⟨U, 0, none⟩) m uc) m u2 ∧ OwnN w9 bs (.slice (some ⟨Lo, 0, none⟩) m lc) m l2), .val (.int .i64 mv)] rfl (by kernel_rfl) (by kernel_rfl) (by kernel_rfl) (by kernel_rfl) rfl ?_
    simp only [List.take_succ_cons, List.take_zero]
    repeat (refine lu_val (x := _) rfl ?_ ?_ (fun w => rfl) (fun h => by rw [h]; exact ⟨Ch.refl _ _, id, id⟩) ?_ ?_; (· kernel_rfl); (· exact ⟨by kernel_rfl, rfl⟩); (· intro W g; simp [go_sem, (HX.out W g).1, (HX.out W g).2.1, (HX.out W g).2.2.1, (HX.out W g).2.2.2.1, (HX.out W g).2.2.2.2, hnI]; done); simp only [Act.put, List.setIfInBounds_toArray, List.set_cons_succ, List.set_cons_zero])
    refine lu_prop (f := 43) (args := #[.int .i64 (p : Int), .int .i64 known, .pointer (some ⟨UP, 0, none⟩), .pointer (some ⟨LP, 0, none⟩), .pointer (some ⟨FP, 0, none⟩)]) rfl (by kernel_rfl) ⟨by kernel_rfl, rfl⟩ ?_ (fun W g => by simp [go_sem]) ?_ ?_
    · intro e W W9 h9 hg9
      simp [Rof] at hg9
      rw [hg9]; exact h9
    · intro W g hu _
      obtain rfl := hu rfl
      refine HIh.out.mono ?_
      rintro e w4 ⟨he, hu4, hl4, hc4⟩
      refine ⟨_, he, ?_, rfl, hu4, hl4⟩
      have h9 := hl4.cell hn
      have h8 := hu4.cell hn
      rw [HKp.out.1] at h9
      rw [HKp.out.2] at h8
      simp only [Rof, if_true]
      exact ⟨hc4, fun _ => h9, fun _ => h8⟩
    intro v9
    simp only [Act.put, List.setIfInBounds_toArray, List.set_cons_succ, List.set_cons_zero]
    refine lu_valh (x := _) rfl (by kernel_rfl) ⟨by kernel_rfl, rfl⟩ (fun w => rfl) (fun h => by rw [h]; exact ⟨Ch.refl _ _, id, id⟩) ?_ ?_
    · intro W g hh
      obtain ⟨rfl, -, -⟩ := hh _ (List.mem_singleton.2 rfl) (by kernel_rfl)
      simp [go_sem, hmin]
      done
    simp only [Act.put, List.setIfInBounds_toArray, List.set_cons_succ, List.set_cons_zero]
    refine lu_end fun W4 g4 hh => ?_
    obtain ⟨hv9, hu4, hl4⟩ := hh _ (List.mem_singleton.2 rfl)
    subst hv9
    have HU4 : Hid (OwnN W4 bs (.slice (some ⟨U, 0, none⟩) m uc) m u2) := hu4
    have HL4 : Hid (OwnN W4 bs (.slice (some ⟨Lo, 0, none⟩) m lc) m l2) := hl4
    have HC4 : Hid (Ch w.drew W4 [U, Lo]) := g4.1
    have HF4 : Hid (LsF W4 UP LP FP U Lo m uc lc) := (HF.out.grow HGd.out).ch g4.1 (by simp [HNe.out.1.1, HNe.out.1.2]) (by simp [HNe.out.2.1.1, HNe.out.2.1.2]) (by simp [HNe.out.2.2.1, HNe.out.2.2.2])
    obtain ⟨W5, hW5⟩ : ∃ W5, W5 = W4.setCell ⟨Lo, n, none⟩ (.int .i64 mv) := ⟨_, rfl⟩
    have hC5 : Ch W4 W5 [Lo] := by rw [hW5]; exact Ch.one (grown_set _ _ _ _) (by simp)
    have HL5 : Hid (OwnN W5 bs (.slice (some ⟨Lo, 0, none⟩) m lc) m (setF l2 n mv)) := by rw [hW5]; exact hl4.set hn mv
    have HU5 : Hid (OwnN W5 bs (.slice (some ⟨U, 0, none⟩) m uc) m u2) := hu4.ch hC5 (by intro k hk; injection hk with hk; subst hk; simp [hUL])
    have HF5 : Hid (LsF W5 UP LP FP U Lo m uc lc) := HF4.out.ch hC5 (by simp [HNe.out.1.2]) (by simp [HNe.out.2.1.2]) (by simp [HNe.out.2.2.2])
    have HQ5 : Hid (∀ W, W5.grownBy W none → W.cell? ⟨UP, 0, none⟩ = some (.slice (some ⟨U, 0, none⟩) m uc) ∧ W.cell? ⟨LP, 0, none⟩ = some (.slice (some ⟨Lo, 0, none⟩) m lc) ∧ W.cell? ⟨U, n, none⟩ = some (.int .i64 (p : Int)) ∧ W.cell? ⟨U, p, none⟩ = some (.int .i64 (u2 p)) ∧ W.cell? ⟨Lo, n, none⟩ = some (.int .i64 mv)) := fun W g => by
      have c9 := (HL5.out.grow g).cell hn
      rw [show setF l2 n mv n = mv by unfold setF; simp] at c9
      have c8 := (HU5.out.grow g).cell hn
      rw [HKp.out.2] at c8
      exact ⟨(HF5.out.grow g).u.cell (i := 0) rfl, (HF5.out.grow g).l.cell (i := 0) rfl, c8, (HU5.out.grow g).cell (by omega), c9⟩
    have HC5 : Hid (Ch w W5 [U, Lo]) := (Ch.of HGd.out).trans (HC4.out.trans (hC5.mono (by intro k _ hk; simp at hk; simp [hk])))
    have cLo := hl4.cell hn
    have fLo := hl4.frozen n
    have q0 := HF4.out.l.cell (i := 0) rfl
    clear hh hu4 hl4 g4
    simp only [List.drop_succ_cons, List.drop_zero]
    go_wp2_with fail
    rw [← hW5]
    clear hW5 cLo fLo q0 hC5
    refine region_lg 9 (World.grownBy.refl _ _) (by kernel_rfl) (by kernel_rfl) (by kernel_rfl) (by kernel_rfl) ?_
    simp only [List.take_succ_cons, List.take_zero]
    repeat (first
      | (refine lx_end fun W0 G0 => ?_)
      | (refine lx_val (v := ?_) ?_ ?_ ?_ ?_; rotate_left; (· kernel_rfl); (· exact ⟨by kernel_rfl, rfl⟩); (· intro W g; simp [go_sem, (HQ5.out W g).1, (HQ5.out W g).2.2.1, (HQ5.out W g).2.2.2.1, hnI, hpI]; rfl); simp only [Act.put, List.setIfInBounds_toArray, List.set_cons_succ, List.set_cons_zero]))
    simp only [List.drop_succ_cons, List.drop_zero]
    have q1 := (HQ5.out W0 G0).2.1
    have qL := (HQ5.out W0 G0).2.2.2.2
    have hU0 := HU5.out.grow G0
    have cU := hU0.cell hn
    have fU := hU0.frozen n
    have HU6 : Hid (OwnN (W0.setCell ⟨U, n, none⟩ (.int .i64 (u2 p))) bs (.slice (some ⟨U, 0, none⟩) m uc) m (setF u2 n (u2 p))) := hU0.set hn (u2 p)
    have hC6 : Ch W0 (W0.setCell ⟨U, n, none⟩ (.int .i64 (u2 p))) [U] := Ch.one (grown_set _ _ _ _) (by simp)
    have HL6 : Hid (OwnN (W0.setCell ⟨U, n, none⟩ (.int .i64 (u2 p))) bs (.slice (some ⟨Lo, 0, none⟩) m lc) m (setF l2 n mv)) := (HL5.out.grow G0).ch hC6 (by intro k hk; injection hk with hk; subst hk; simp; exact fun h => hUL h.symm)
    have HC6 : Hid (Ch w (W0.setCell ⟨U, n, none⟩ (.int .i64 (u2 p))) [U, Lo]) := HC5.out.trans ((Ch.of G0).trans (hC6.mono (by intro k _ hk; simp at hk; simp [hk])))
    have q1x := hC6.cell q1 (by simp [HNe.out.2.1.1])
    have qLx := hC6.cell qL (by simp; exact fun h => hUL h.symm)
    clear hU0 hC6 hs hf q1 qL
    go_wp2
    go_ret
    exact ⟨by rw [HR2.out]; rfl, by rw [HR2.out]; exact HU6.out, by rw [HR2.out]; exact HL6.out, HC6.out⟩
end Go.Proofs.Ytbpdggdpgohilaa
