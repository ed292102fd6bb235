/- Contracts and plain facts that the walks share, text by text: TyRa, TyRb, TyRl, TyRo, TyLot, RuInv, RuSrc, TyLots. -/
import Derived.Test.YtlkldehapkgdaaaG2
import Derived.Test.YtlkldehapkgdaaaG1
import Derived.Deep.RegionLaw
/- gantryref7's small ones: Is, Scalar, ahead, entry. -/
namespace Go.Proofs.Ytlkldehapkgdaaa
open Go.RowKit
set_option linter.unusedVariables false

theorem ris7_any (a : Option Addr) (n c : Nat) (i : Int) (w : World) : Calls Try.prog 23 #[.slice a n c, .int .i64 i] w fun e w' => e = .returned (.bool (Ty.nmB n i)) ∧ w' = w := by
  go_enter Try.func23, Try.ntmps23
  go_wp2
  all_goals (go_ret; refine ⟨ret_bool ?_, rfl⟩; unfold Ty.nmB; first | rfl | (rw [Bool.eq_iff_iff]; simp at *; try omega))
theorem rscalar7_any (k : Int) (w : World) : Calls Try.prog 46 #[.int .i64 k] w fun e w' => e = .returned (.bool (Wd.wordB k)) ∧ w' = w := by
  have HC : Hid (∀ W, Calls Try.prog 52 #[.int .i64 k] W fun e w' => e = .returned (.bool (Wd.wordB k)) ∧ w' = W) := fun W => rword_any k W
  generalize Wd.wordB k = B at *
  go_enter Try.func46, Try.ntmps46
  go_wp2_with (go_at_call 52; refine (HC.out _).mono ?_; rintro e w3 ⟨rfl, rfl⟩)
  go_ret
  exact ⟨rfl, rfl⟩
def Ty.ahB (x : Ty.TyV) (i : Nat) : Bool := (List.range x.nf).all fun k => Ty.nmB i (x.F k)
theorem Ty.ahB_iff {x : Ty.TyV} {i : Nat} : Ty.ahB x i = true ↔ ∀ k, k < x.nf → 0 ≤ x.F k ∧ x.F k < i := by
  unfold Ty.ahB
  simp only [List.all_eq_true, List.mem_range, Ty.nmB_iff]
set_option maxRecDepth 100000 in
set_option maxHeartbeats 4000000 in
theorem rahead_any {N : Nat} {w : World} {x : Ty.TyV} {fa : Option Addr} {fc : Nat} (h : NumIn N w fa x.nf fc x.F) (h16 : x.nf ≤ 16) (i : Nat) :
    Calls Try.prog 45 #[.slice fa x.nf fc, .int .i64 i] w fun e w' => e = .returned (.bool (Ty.ahB x i)) ∧ w' = w := by
  have hle := h.le
  have hmx := h.max
  unfold maxLen at hmx
  have h16' : (x.nf : Int) ≤ 16 := by omega
  obtain ⟨R, hR⟩ : ∃ R, R = Ty.ahB x i := ⟨_, rfl⟩
  rw [← hR]
  have HR : Hid (R = Ty.ahB x i) := hR
  clear hR
  obtain ⟨n, hn⟩ : ∃ n, n = x.nf := ⟨_, rfl⟩
  have Hn : Hid (n = x.nf) := hn
  rw [← hn] at h16' hle ⊢
  have H : Hid (NumIn N w fa n fc x.F) := by show NumIn _ _ _ _ _ _; rw [hn]; exact h
  clear hn h
  go_enter Try.func45, Try.ntmps45
  go_wp2_with fail
  go_loopw [5] (fun ix wr => ∃ k : Nat, ix = .int .i64 k ∧ k ≤ n ∧ (∀ j, j < k → Ty.nmB i (x.F j) = true) ∧ wr = w) (fun ix _ => n - (intOf ix).toNat)
  case atStart => exact ⟨0, rfl, Nat.zero_le _, fun j hj => by omega, rfl⟩
  case round =>
    obtain ⟨k, rfl, hk, hj, rfl⟩ := hrel
    by_cases hkn : k < n
    · have hkn' : (k : Int) < n := by omega
      obtain ⟨b, off, rfl, hb, hc⟩ := H.out.at hkn
      cases hm : Ty.nmB i (x.F k)
      · have e : R = false := by
          rw [HR.out]
          cases hh : Ty.ahB x i
          · rfl
          · rw [Ty.nmB_iff.2 (Ty.ahB_iff.1 hh k (by rw [← Hn.out]; exact hkn))] at hm; cases hm
        have hy : x.F k < 0 ∨ (i : Int) ≤ x.F k := by
          by_cases h1 : 0 ≤ x.F k ∧ x.F k < i
          · rw [Ty.nmB_iff.2 h1] at hm; cases hm
          · omega
        generalize x.F k = y at *
        clear hj
        rcases hy with hy | hy
        · go_wp2
          go_ret
          exact ⟨by first | rfl | (rw [e]; rfl), rfl⟩
        · have hy0 : ¬ y < 0 := by omega
          go_wp2
          go_ret
          exact ⟨by first | rfl | (rw [e]; rfl), rfl⟩
      · obtain ⟨y1, y2⟩ := Ty.nmB_iff.1 hm
        have HJ : Hid (∀ j, j < k + 1 → Ty.nmB i (x.F j) = true) := fun j hj' => by
          by_cases e : j = k
          · subst e; exact hm
          · exact hj j (by omega)
        clear hj hm
        generalize x.F k = y at hc y1 y2
        have hy0 : ¬ y < 0 := by omega
        have hy1 : ¬ (i : Int) ≤ y := by omega
        go_wp2
        go_roundw
        case rel => exact ⟨k + 1, by go_num, by omega, HJ.out, by first | rfl | trivial⟩
        case measure => simp [intOf]; omega
    · obtain rfl : k = n := by omega
      have e : R = true := HR.out.trans (Ty.ahB_iff.2 fun j hj' => Ty.nmB_iff.1 (hj j (by rw [Hn.out]; exact hj')))
      clear hj
      go_wp2
      go_ret
      exact ⟨by first | rfl | (rw [e]; rfl), rfl⟩
set_option maxRecDepth 100000 in
set_option maxHeartbeats 8000000 in
theorem rentry_any {N : Nat} {w : World} {x : Ty.TyV} {fa : Option Addr} {fc : Nat} (h : NumIn N w fa x.nf fc x.F) (i n : Nat) :
    Calls Try.prog 33 #[.agg #[.int .i64 x.kind, .int .i64 x.elem, .int .i64 x.n, .slice fa x.nf fc], .int .i64 i, .int .i64 n] w fun e w' => e = .returned (.bool (Ty.okB x i n)) ∧ w.grownBy w' none := by
  have hle := h.le
  have hmx := h.max
  unfold maxLen at hmx
  have HF : Hid (x.nf ≤ 16 → ∀ W, w.grownBy W none → Calls Try.prog 45 #[.slice fa x.nf fc, .int .i64 i] W fun e w' => e = .returned (.bool (Ty.ahB x i)) ∧ w' = W) := fun h16 W hg => rahead_any (h.ch (l := []) (Ch.of hg) (by simp)) h16 i
  have hz : (x.nf == 0) = ((x.nf : Int) == 0) := by rw [Bool.eq_iff_iff]; simp
  have hfb : Ty.fldB x i = (decide ((x.nf : Int) ≤ 16) && Ty.ahB x i) := by
    rw [Bool.eq_iff_iff, Ty.fldB_iff]
    simp only [Bool.and_eq_true, decide_eq_true_eq, Ty.ahB_iff]
    constructor
    · intro h; exact ⟨by omega, h.2⟩
    · intro h; exact ⟨by omega, h.2⟩
  obtain ⟨R, hR⟩ : ∃ R, R = Ty.okB x i n := ⟨_, rfl⟩
  rw [← hR]
  unfold Ty.okB at hR
  rw [hz, hfb] at hR
  have HG : Hid (w.grownBy (w.alloc (Obj.cells #[.int .i64 x.kind, .int .i64 x.elem, .int .i64 x.n, .slice fa x.nf fc] 41)) none) := World.grownBy_alloc w _ none
  clear h hz hfb
  generalize Ty.ahB x i = fb at *
  obtain ⟨k, el, nn, nf, F⟩ := x
  simp only at *
  have hc : k = 11 ∨ k = 14 ∨ k = 12 ∨ k = 13 ∨ k = 15 ∨ ((k == 11) = false ∧ (k == 14) = false ∧ (k == 12) = false ∧ (k == 13) = false ∧ (k == 15) = false) := by
    simp only [beq_eq_false_iff_ne]; omega
  have h3 : (decide (0 ≤ el) = false ∧ Ty.nmB n el = false) ∨ (decide (0 ≤ el) = true ∧ decide (el < n) = false ∧ Ty.nmB n el = false) ∨ (decide (0 ≤ el) = true ∧ decide (el < n) = true ∧ Ty.nmB n el = true) := by
    unfold Ty.nmB
    cases decide (0 ≤ el) <;> cases decide (el < (n : Int)) <;> simp
  rcases hc with rfl | rfl | rfl | rfl | rfl | ⟨k1, k2, k3, k4, k5⟩
  · rw [if_pos (by decide)] at hR
    clear HF
    rcases h3 with ⟨e1, e2⟩ | ⟨e1, e3, e2⟩ | ⟨e1, e3, e2⟩
    · simp only [e2, Bool.false_and] at hR; subst hR; clear e2
      go_enter Try.func33, Try.ntmps33
      go_wp2
      go_ret
      exact ⟨rfl, HG.out⟩
    · simp only [e2, Bool.false_and] at hR; subst hR; clear e2
      go_enter Try.func33, Try.ntmps33
      go_wp2
      go_ret
      exact ⟨rfl, HG.out⟩
    · simp only [e2, Bool.true_and] at hR; clear e2
      go_enter Try.func33, Try.ntmps33
      go_wp2
      all_goals (go_ret; exact ⟨ret_bool (by rw [hR]; simp_all), by simpa [*] using HG.out⟩)
  · rw [if_pos (by decide)] at hR
    clear HF
    rcases h3 with ⟨e1, e2⟩ | ⟨e1, e3, e2⟩ | ⟨e1, e3, e2⟩
    · simp only [e2, Bool.false_and] at hR; subst hR; clear e2
      go_enter Try.func33, Try.ntmps33
      go_wp2
      go_ret
      exact ⟨rfl, HG.out⟩
    · simp only [e2, Bool.false_and] at hR; subst hR; clear e2
      go_enter Try.func33, Try.ntmps33
      go_wp2
      go_ret
      exact ⟨rfl, HG.out⟩
    · simp only [e2, Bool.true_and] at hR; clear e2
      go_enter Try.func33, Try.ntmps33
      go_wp2
      all_goals (go_ret; exact ⟨ret_bool (by rw [hR]; simp_all), by simpa [*] using HG.out⟩)
  · rw [if_neg (by decide), if_pos rfl] at hR
    clear HF h3
    unfold Ty.nmB at hR
    have HRh : Hid (R = (decide (0 ≤ el) && decide (el < i) && (decide (0 ≤ nn) && decide (nn < 65537)) && ((nf : Int) == 0))) := hR
    clear hR
    go_enter Try.func33, Try.ntmps33
    go_wp2
    all_goals (go_ret; exact ⟨ret_bool (by rw [HRh.out]; first | (simp_all; done) | (rw [Bool.eq_iff_iff]; simp at *; omega)), by simpa [*] using HG.out⟩)
  · rw [if_neg (by decide), if_neg (by decide), if_pos rfl] at hR
    clear h3
    by_cases h16 : nf ≤ 16
    · have h16' : (nf : Int) ≤ 16 := by omega
      have HD := HF.out h16 _ HG.out
      have HD' : Hid (Calls Try.prog 45 #[.slice fa nf fc, .int .i64 i] (w.alloc (Obj.cells #[.int .i64 13, .int .i64 el, .int .i64 nn, .slice fa nf fc] 41)) fun e w' => e = .returned (.bool fb) ∧ w' = (w.alloc (Obj.cells #[.int .i64 13, .int .i64 el, .int .i64 nn, .slice fa nf fc] 41))) := HD
      clear HF HD
      have hq : (el == 0) = false ∨ ((el == 0) = true ∧ (nn == 0) = false) ∨ (el = 0 ∧ nn = 0) := by
        cases h1 : el == 0 <;> cases h2 : nn == 0 <;> simp_all
      rcases hq with e1 | ⟨e1, e2⟩ | ⟨rfl, rfl⟩
      · simp only [e1, Bool.false_and] at hR; subst hR
        go_enter Try.func33, Try.ntmps33
        go_wp2
        all_goals (go_ret; exact ⟨rfl, HG.out⟩)
      · have e1' : el = 0 := by simpa using e1
        subst e1'
        simp only [e2, Bool.and_false, Bool.false_and] at hR; subst hR
        go_enter Try.func33, Try.ntmps33
        go_wp2
        all_goals (go_ret; exact ⟨rfl, HG.out⟩)
      · have hR' : R = fb := by rw [hR]; simp [h16']
        subst hR'
        clear hR
        go_enter Try.func33, Try.ntmps33
        go_wp2_with (go_at_call 45; refine HD'.out.mono ?_; rintro e w3 ⟨rfl, rfl⟩)
        all_goals (go_ret; exact ⟨rfl, HG.out⟩)
    · have h16' : ¬ (nf : Int) ≤ 16 := by omega
      have hR' : R = false := by rw [hR]; simp [h16']
      subst hR'
      clear HF hR
      by_cases hel : el = 0
      · subst hel
        go_enter Try.func33, Try.ntmps33
        go_wp2
        all_goals (go_ret; exact ⟨by first | rfl | (refine ret_bool ?_; simp_all), by simpa [*] using HG.out⟩)
      · have hel' : (el == 0) = false := by simpa using hel
        clear hel
        go_enter Try.func33, Try.ntmps33
        go_wp2
        all_goals (go_ret; exact ⟨by first | rfl | (refine ret_bool ?_; simp_all), by simpa [*] using HG.out⟩)
  · rw [if_neg (by decide), if_neg (by decide), if_neg (by decide)] at hR
    clear HF h3
    have HRh : Hid (R = ((el == 0) && (nn == 0) && ((nf : Int) == 0))) := by show R = _; rw [hR]; simp
    clear hR
    by_cases hel : el = 0
    · subst hel
      go_enter Try.func33, Try.ntmps33
      go_wp2
      all_goals (go_ret; exact ⟨ret_bool (by rw [HRh.out]; first | (simp_all; done) | (rw [Bool.eq_iff_iff]; simp at *; omega)), by simpa [*] using HG.out⟩)
    · have hel' : (el == 0) = false := by simpa using hel
      clear hel
      go_enter Try.func33, Try.ntmps33
      go_wp2
      all_goals (go_ret; exact ⟨ret_bool (by rw [HRh.out]; first | (simp_all; done) | (rw [Bool.eq_iff_iff]; simp at *; omega)), by simpa [*] using HG.out⟩)
  · rw [if_neg (by simp_all), if_neg (by simp_all), if_neg (by simp_all)] at hR
    clear HF h3
    have hw : (k == 15 || decide (1 ≤ k) && decide (k ≤ 10)) = Wd.wordB k := by
      unfold Wd.wordB
      rw [Bool.eq_iff_iff]
      simp at *
      omega
    rw [hw] at hR
    have HC : Hid (∀ W, Calls Try.prog 46 #[.int .i64 k] W fun e w' => e = .returned (.bool (Wd.wordB k)) ∧ w' = W) := fun W => rscalar7_any k W
    clear hw
    generalize Wd.wordB k = wb at *
    cases wb
    · simp only [Bool.false_and] at hR; subst hR
      go_enter Try.func33, Try.ntmps33
      go_wp2_with (go_at_call 46; refine (HC.out _).mono ?_; rintro e w3 ⟨rfl, rfl⟩)
      all_goals (go_ret; exact ⟨rfl, HG.out⟩)
    · have HRh : Hid (R = ((el == 0) && (nn == 0) && ((nf : Int) == 0))) := by show R = _; rw [hR]; simp
      clear hR
      by_cases hel : el = 0
      · subst hel
        go_enter Try.func33, Try.ntmps33
        go_wp2_with (go_at_call 46; refine (HC.out _).mono ?_; rintro e w3 ⟨rfl, rfl⟩)
        all_goals (go_ret; exact ⟨ret_bool (by rw [HRh.out]; first | (simp_all; done) | (rw [Bool.eq_iff_iff]; simp at *; omega)), by simpa [*] using HG.out⟩)
      · have hel' : (el == 0) = false := by simpa using hel
        clear hel
        go_enter Try.func33, Try.ntmps33
        go_wp2_with (go_at_call 46; refine (HC.out _).mono ?_; rintro e w3 ⟨rfl, rfl⟩)
        all_goals (go_ret; exact ⟨ret_bool (by rw [HRh.out]; first | (simp_all; done) | (rw [Bool.eq_iff_iff]; simp at *; omega)), by simpa [*] using HG.out⟩)
end Go.Proofs.Ytlkldehapkgdaaa

/- gantryref7.lay. -/
namespace Go.Proofs.Ytlkldehapkgdaaa
open Go.RowKit
set_option linter.unusedVariables false

theorem up_tdiv {n a : Int} (ha : Ty.Al a) (hn : 0 ≤ n) : (n + a - 1).tdiv a * a = Ty.up n a := by
  have := ha.pos
  rw [Int.tdiv_eq_ediv_of_nonneg (by omega)]
  rfl
theorem ret_pair {a b c d : Int} (h1 : a = b) (h2 : c = d) : Ending.returned (.tuple #[.int .i64 a, .int .i64 c]) = .returned (.tuple #[.int .i64 b, .int .i64 d]) := by rw [h1, h2]
theorem NumIn.val {N : Nat} {w : World} {a : Option Addr} {n c : Nat} {M : Nat → Int} (h : NumIn N w a n c M) {i : Nat} (hi : i < n) : ∃ b off, a = some ⟨b, off, none⟩ ∧ w.cell? ⟨b, off + i, none⟩ = some (.int .i64 (M i)) := by
  obtain ⟨b, off, e, _, hc⟩ := h.at hi
  exact ⟨b, off, e, hc⟩
set_option maxRecDepth 100000 in
set_option maxHeartbeats 8000000 in
theorem rlay_any {N M : Nat} {w : World} {x : Ty.TyV} {fa sa aa : Option Addr} {fc sc ac i n : Nat} {L : Nat → Ty.Li} (hx : NumIn N w fa x.nf fc x.F) (hS : NumIn M w sa i sc (fun j => (L j).size)) (hA : NumIn M w aa i ac (fun j => (L j).align)) (hok : Ty.okB x i n = true) (hL : ∀ j, j < i → Ty.Good (L j) ∧ (L j).size ≤ 65536) :
    Calls Try.prog 34 #[.agg #[.int .i64 x.kind, .int .i64 x.elem, .int .i64 x.n, .slice fa x.nf fc], .slice sa i sc, .slice aa i ac] w fun e w' => e = .returned (.tuple #[.int .i64 (Ty.lieOf x L).size, .int .i64 (Ty.lieOf x L).align]) ∧ w.grownBy w' none := by
  obtain ⟨W1, hW1⟩ : ∃ W1, W1 = w.alloc (.cells #[.int .i64 x.kind, .int .i64 x.elem, .int .i64 x.n, .slice fa x.nf fc] 41) := ⟨_, rfl⟩
  have hg1 : w.grownBy W1 none := by rw [hW1]; exact World.grownBy_alloc _ _ _
  have HG1 : Hid (w.grownBy W1 none) := hg1
  have HW1 : Hid (W1 = w.alloc (.cells #[.int .i64 x.kind, .int .i64 x.elem, .int .i64 x.n, .slice fa x.nf fc] 41)) := hW1
  have HB : Hid (∀ j v, (#[.int .i64 x.kind, .int .i64 x.elem, .int .i64 x.n, .slice fa x.nf fc] : Array Value)[j]? = some v → W1.cell? ⟨w.heap.size, j, none⟩ = some v) := fun j v hv => by rw [hW1, ← hv]; exact cells_new _ _ rfl _
  have HX : Hid (NumIn N W1 fa x.nf fc x.F) := hx.grow hg1
  have HS : Hid (NumIn M W1 sa i sc (fun j => (L j).size)) := hS.grow hg1
  have HA : Hid (NumIn M W1 aa i ac (fun j => (L j).align)) := hA.grow hg1
  have hil := hS.le
  have him := hS.max
  have hil2 := hA.le
  have him2 := hA.max
  have hfl := hx.le
  have hfm := hx.max
  unfold maxLen at him him2 hfm
  rcases Ty.ok_cases hok with ⟨hk, h1, h2, h3, h4, h5⟩ | ⟨hk, h1, h2, h16, hf⟩ | ⟨hk, h1, h2⟩ | ⟨h1, h2, h3, h4⟩
  · obtain ⟨j, hj⟩ : ∃ j : Nat, x.elem = j := ⟨x.elem.toNat, by omega⟩
    have hji : j < i := by omega
    have hji' : (j : Int) < i := by omega
    obtain ⟨hgd, hs⟩ := hL j hji
    have hs0 : 0 ≤ (L j).size := by have := hgd.w0; have := hgd.ws; omega
    obtain ⟨b1, o1, rfl, c1⟩ := HS.out.val hji
    obtain ⟨b2, o2, rfl, c2⟩ := HA.out.val hji
    have hm := Int.mul_le_mul h4 hs hs0 (by omega)
    have hm0 : 0 ≤ x.n * (L j).size := Int.mul_nonneg h3 hs0
    have HR : Hid ((Ty.lieOf x L).size = x.n * (L j).size ∧ (Ty.lieOf x L).align = (L j).align) := by
      have e : x.elem.toNat = j := by omega
      unfold Ty.lieOf
      rw [if_pos hk, e]
      exact ⟨rfl, rfl⟩
    rw [HR.out.1, HR.out.2]
    have k0 := HB.out 0 _ rfl
    have k1 := HB.out 1 _ rfl
    have k2 := HB.out 2 _ rfl
    have k3 := HB.out 3 _ rfl
    rw [hk] at k0
    rw [hj] at k1
    have HMM : Hid (wrap64 (x.n * (L j).size) = x.n * (L j).size) := by show _ = _; unfold wrap64; omega
    clear hx hS hA hok hL hgd hW1 hg1 HX HS HA HR h5
    generalize (L j).size = S at *
    generalize (L j).align = A at *
    obtain ⟨kd, el, nn, nf, FF⟩ := x
    simp only at *
    subst hk
    subst hj
    go_enter Try.func34, Try.ntmps34
    go_wp2_with fail
    rw [← HW1.out]
    go_quiet (fail)
    go_wp2
    go_ret2
    exact ⟨rfl, grown_trans HG1.out (grown_drewN (World.grownBy.refl _ _) _)⟩
  · have hgf : ∀ k, k < x.nf → Ty.Good (Ty.fl x L k) ∧ (Ty.fl x L k).size ≤ 65536 := fun k hk' => hL _ (by have := hf k hk'; omega)
    have HR : Hid ((Ty.lieOf x L).size = Ty.up (Ty.en x L x.nf) (Ty.al x L x.nf) ∧ (Ty.lieOf x L).align = Ty.al x L x.nf) := by
      unfold Ty.lieOf
      rw [if_neg (by omega), if_pos hk]
      exact ⟨rfl, rfl⟩
    rw [HR.out.1, HR.out.2]
    obtain ⟨U9, hU9⟩ : ∃ U, U = Ty.up (Ty.en x L x.nf) (Ty.al x L x.nf) := ⟨_, rfl⟩
    obtain ⟨A9, hA9⟩ : ∃ A, A = Ty.al x L x.nf := ⟨_, rfl⟩
    rw [← hU9, ← hA9]
    rw [← hA9] at hU9
    have HU9 : Hid (U9 = Ty.up (Ty.en x L x.nf) A9) := hU9
    have HA9 : Hid (A9 = Ty.al x L x.nf) := hA9
    clear hU9 hA9
    have HGf : Hid (∀ k, k < x.nf → Ty.Good (Ty.fl x L k) ∧ (Ty.fl x L k).size ≤ 65536) := hgf
    have HFi : Hid (∀ k, k < x.nf → 0 ≤ x.F k ∧ x.F k < i) := hf
    have h16' : (x.nf : Int) ≤ 16 := by omega
    have HB3 : Hid (W1.cell? ⟨w.heap.size, 3, none⟩ = some (.slice fa x.nf fc)) := HB.out 3 _ rfl
    have k0 := HB.out 0 _ rfl
    rw [hk] at k0
    rw [hk] at HW1
    clear hx hS hA hok hL hW1 hg1 HR hgf hf HB h1 h2
    generalize hkd : x.kind = kd at *
    clear hkd
    subst hk
    go_enter Try.func34, Try.ntmps34
    go_wp2_with fail
    rw [← HW1.out]
    go_loopw [8, 9, 10] (fun z m ix wr => ∃ k : Nat, ix = .int .i64 k ∧ z = .int .i64 (Ty.en x L k) ∧ m = .int .i64 (Ty.al x L k) ∧ k ≤ x.nf ∧ W1.grownBy wr none) (fun _ _ ix _ => x.nf - (intOf ix).toNat)
    case atStart => exact ⟨0, rfl, rfl, rfl, Nat.zero_le _, World.grownBy.refl _ _⟩
    case round =>
      obtain ⟨k, rfl, rfl, rfl, hk, hg⟩ := hrel
      have HG : Hid (W1.grownBy wr none) := hg
      have c3 := (Ch.of (l := []) hg).cell HB3.out (by simp)
      by_cases hkn : k < x.nf
      · have hkn' : (k : Int) < x.nf := by omega
        obtain ⟨fb, fo, rfl, hcf⟩ := (HX.out.grow hg).val hkn
        have hfk := HFi.out k hkn
        obtain ⟨j, hj⟩ : ∃ j : Nat, x.F k = j := ⟨(x.F k).toNat, by omega⟩
        have hji : j < i := by omega
        have hji' : (j : Int) < i := by omega
        obtain ⟨b1, o1, rfl, c1⟩ := (HS.out.grow hg).val hji
        obtain ⟨b2, o2, rfl, c2⟩ := (HA.out.grow hg).val hji
        rw [hj] at hcf
        have hfl : Ty.fl x L k = L j := by unfold Ty.fl; rw [hj]; rfl
        obtain ⟨hgd, hs6⟩ := HGf.out k hkn
        have hen := Ty.en_spec (k := k) fun q hq => HGf.out q (by omega)
        have hal := Ty.al_al (k := k) fun q hq => (HGf.out q (by omega)).1
        rw [hfl] at hgd hs6
        have hs0 : 0 ≤ (L j).size := by have := hgd.w0; have := hgd.ws; omega
        have HE : Hid (Ty.en x L (k + 1) = Ty.up (Ty.en x L k) (L j).align + (L j).size) := by show _ = _; rw [Ty.en, hfl]
        have HAl : Hid (Ty.al x L (k + 1) = max (Ty.al x L k) (L j).align) := by show _ = _; rw [Ty.al, hfl]
        have ha := hgd.al
        have hup := up_tdiv (n := Ty.en x L k) ha (by omega)
        clear hg hgd hfl hj hfk
        obtain ⟨U, hU⟩ : ∃ U, U = Ty.up (Ty.en x L k) (L j).align := ⟨_, rfl⟩
        rw [← hU] at HE hup
        generalize Ty.en x L k = E at *
        generalize Ty.al x L k = A0 at *
        generalize (L j).size = S at *
        generalize (L j).align = A at *
        have HU : Hid (U = Ty.up E A) := hU
        clear hU hup
        have a0 := hal.pos
        have a1 := hal.le
        rcases ha with rfl | rfl | rfl | rfl
        all_goals (
          go_wp2_with fail
          go_quiet (fail)
          go_wp2
          all_goals (
            have hU := HU.out
            unfold Ty.up at hU
            go_roundw
            case rel => exact ⟨k + 1, by go_num, by rw [HE.out]; congr 1; omega, by rw [HAl.out]; congr 1; omega, by omega, grown_trans HG.out (grown_drewN (World.grownBy.refl _ _) _)⟩
            case measure => simp [intOf]; omega))
      · obtain rfl : k = x.nf := by omega
        have hen := Ty.en_spec (k := x.nf) HGf.out
        have hal := Ty.al_al (k := x.nf) fun q hq => (HGf.out q hq).1
        have HU := HU9.out
        have hA9 := HA9.out
        rw [← hA9] at hal ⊢
        clear hg hA9
        obtain ⟨E, hE⟩ : ∃ E, E = Ty.en x L x.nf := ⟨_, rfl⟩
        rw [← hE] at hen HU ⊢
        have HU2 : Hid (U9 = Ty.up E A9) := HU
        clear hE HU
        clear HA9 HU9
        rcases hal with rfl | rfl | rfl | rfl
        all_goals (
          go_wp2
          go_ret2
          have hU := HU2.out
          unfold Ty.up at hU
          refine ⟨?_, grown_trans HG1.out HG.out⟩
          rw [hU]
          first | rfl | exact ret_pair (by omega) rfl)
  · have HR : Hid ((Ty.lieOf x L).size = 16 ∧ (Ty.lieOf x L).align = 8) := by
      unfold Ty.lieOf
      rw [if_neg (by omega), if_neg (by omega), if_pos hk]
      exact ⟨rfl, rfl⟩
    rw [HR.out.1, HR.out.2]
    obtain ⟨kd, el, nn, nf, FF⟩ := x
    simp only at *
    clear hx hS hA hok hL hW1 hg1 HX HS HA HR HB
    rcases hk with rfl | rfl
    all_goals (
      go_enter Try.func34, Try.ntmps34
      go_wp2
      go_ret2
      exact ⟨rfl, World.grownBy_alloc _ _ _⟩)
  · have HR : Hid ((Ty.lieOf x L).size = Wd.by' x.kind ∧ (Ty.lieOf x L).align = Wd.by' x.kind) := by
      unfold Ty.lieOf
      rw [if_neg (by omega), if_neg (by omega), if_neg (by omega)]
      exact ⟨rfl, rfl⟩
    rw [HR.out.1, HR.out.2]
    obtain ⟨kd, el, nn, nf, FF⟩ := x
    simp only at *
    have k1 : (kd == 12) = false := by simp; omega
    have k2 : (kd == 13) = false := by simp; omega
    have k3 : (kd == 14) = false := by simp; omega
    have k4 : (kd == 15) = false := by simp; omega
    have HC : Hid (∀ W, Calls Try.prog 31 #[.int .i64 kd] W fun e w' => e = .returned (.int .i64 (Wd.by' kd)) ∧ w' = W) := fun W => rbytes_any kd W
    generalize Wd.by' kd = B at *
    clear hx hS hA hok hL hW1 hg1 HX HS HA HR HB h3 h4
    go_enter Try.func34, Try.ntmps34
    go_wp2_with (go_at_call 31; refine (HC.out _).mono ?_; rintro e w3 ⟨rfl, rfl⟩)
    go_ret2
    exact ⟨rfl, World.grownBy_alloc _ _ _⟩
end Go.Proofs.Ytlkldehapkgdaaa

/- gantryref7: Lay, laid, Check, Offset. -/
namespace Go.Proofs.Ytlkldehapkgdaaa
open Go.RowKit
set_option linter.unusedVariables false

/-- two rows of numbers of the call's own -/
structure Two (w0 wr : World) (vS vA : Value) (l m : List Int) : Prop where
  oS : OwnZ wr w0.heap.size vS l
  oA : OwnZ wr w0.heap.size vA m
  ap : ∀ q, vS.ownBlock = some q → vA.ownBlock ≠ some q
  gr : w0.grownBy wr none
theorem Two.nil (w : World) : Two w w (.slice none 0 0) (.slice none 0 0) [] [] := ⟨ownZ_nil _ _, ownZ_nil _ _, (fun q h => by cases h), World.grownBy.refl _ _⟩
theorem Two.grow {w0 w w' : World} {vS vA : Value} {l m : List Int} (h : Two w0 w vS vA l m) (hg : w.grownBy w' none) : Two w0 w' vS vA l m := ⟨h.oS.grow hg, h.oA.grow hg, h.ap, grown_trans h.gr hg⟩
theorem Two.putS {w0 w w1 : World} {vS vA vS' : Value} {l m l' : List Int} (h : Two w0 w vS vA l m) (ho : OwnZ w1 w0.heap.size vS' l') (hg : w.grownBy w1 vS.ownBlock) (hq : ∀ q, vS'.ownBlock = some q → vS.ownBlock = some q ∨ w.heap.size ≤ q) : Two w0 w1 vS' vA l' m := by
  have c := grown_ch hg
  refine ⟨ho, h.oA.ch c (fun q hq' hm => h.ap q (by simpa using hm) hq'), fun q hq' e => ?_, ((Ch.of (l := vS.ownBlock.toList) h.gr).trans c).nil (fun q hm => h.oS.base q (by simpa using hm))⟩
  rcases hq q hq' with e1 | e1
  · exact h.ap q e1 e
  · have := h.oA.lt q e; omega
theorem Two.putA {w0 w w1 : World} {vS vA vA' : Value} {l m m' : List Int} (h : Two w0 w vS vA l m) (ho : OwnZ w1 w0.heap.size vA' m') (hg : w.grownBy w1 vA.ownBlock) (hq : ∀ q, vA'.ownBlock = some q → vA.ownBlock = some q ∨ w.heap.size ≤ q) : Two w0 w1 vS vA' l m' := by
  have c := grown_ch hg
  refine ⟨h.oS.ch c (fun q hq' hm => h.ap q hq' (by simpa using hm)), ho, fun q hq' e => ?_, ((Ch.of (l := vA.ownBlock.toList) h.gr).trans c).nil (fun q hm => h.oA.base q (by simpa using hm))⟩
  rcases hq q e with e1 | e1
  · exact h.ap q hq' e1
  · have := h.oS.lt q hq'; omega
/-- sizes, alignments of the first so many -/
def Ty.szs (T : Nat → Ty.TyV) (k : Nat) : List Int := (List.range k).map fun j => (Ty.lie T j).size
def Ty.als (T : Nat → Ty.TyV) (k : Nat) : List Int := (List.range k).map fun j => (Ty.lie T j).align
theorem Ty.szs_succ (T : Nat → Ty.TyV) (k : Nat) : Ty.szs T (k + 1) = Ty.szs T k ++ [(Ty.lie T k).size] := by unfold Ty.szs; rw [List.range_succ, List.map_append]; rfl
theorem Ty.als_succ (T : Nat → Ty.TyV) (k : Nat) : Ty.als T (k + 1) = Ty.als T k ++ [(Ty.lie T k).align] := by unfold Ty.als; rw [List.range_succ, List.map_append]; rfl
theorem Ty.szs_len (T : Nat → Ty.TyV) (k : Nat) : (Ty.szs T k).length = k := by simp [Ty.szs]
theorem Ty.als_len (T : Nat → Ty.TyV) (k : Nat) : (Ty.als T k).length = k := by simp [Ty.als]
theorem Two.nums {w0 w : World} {vS vA : Value} {T : Nat → Ty.TyV} {k : Nat} (h : Two w0 w vS vA (Ty.szs T k) (Ty.als T k)) : ∃ sa sc aa ac, vS = .slice sa k sc ∧ vA = .slice aa k ac ∧ NumIn w.heap.size w sa k sc (fun j => (Ty.lie T j).size) ∧ NumIn w.heap.size w aa k ac (fun j => (Ty.lie T j).align) := by
  obtain ⟨sa, sc, e1, h1⟩ := h.oS.numIn (M := fun j => (Ty.lie T j).size) (Ty.szs_len T k) (fun i hi => by simp [Ty.szs, List.getD_eq_getElem?_getD, hi])
  obtain ⟨aa, ac, e2, h2⟩ := h.oA.numIn (M := fun j => (Ty.lie T j).align) (Ty.als_len T k) (fun i hi => by simp [Ty.als, List.getD_eq_getElem?_getD, hi])
  exact ⟨sa, sc, aa, ac, e1, e2, h1, h2⟩
set_option maxRecDepth 100000 in
set_option maxHeartbeats 8000000 in
theorem rlaid_any {N : Nat} {w : World} {T : Nat → Ty.TyV} {n m : Nat} {a : Option Addr} {c : Nat} (h : TysIn N w a m c T) (hm : m ≤ 64) (hF : Ty.Fine T n m) :
    Calls Try.prog 43 #[.slice a m c] w fun e w' => ∃ vS vA, e = .returned (.tuple #[vS, vA]) ∧ Two w w' vS vA (Ty.szs T m) (Ty.als T m) := by
  have hle := h.le
  have hmx := h.max
  unfold maxLen at hmx
  have hm' : (m : Int) ≤ 64 := by omega
  have HT : Hid (TysIn N w a m c T) := h
  have HF : Hid (Ty.Fine T n m) := hF
  clear h hF
  go_enter Try.func43, Try.ntmps43
  go_wp2_with fail
  go_loopw [4, 5, 6] (fun vS vA ix wr => ∃ k : Nat, ix = .int .i64 k ∧ k ≤ m ∧ Two w wr vS vA (Ty.szs T k) (Ty.als T k)) (fun _ _ ix _ => m - (intOf ix).toNat)
  case atStart => exact ⟨0, rfl, Nat.zero_le _, Two.nil w⟩
  case round =>
    obtain ⟨k, rfl, hk, h2⟩ := hrel
    have H2 : Hid (Two w wr u4 u5 (Ty.szs T k) (Ty.als T k)) := h2
    obtain ⟨sa, sc, aa, ac, hu4, hu5, hS, hA⟩ := h2.nums
    have hsz := h2.gr.size
    by_cases hkm : k < m
    · have hkm' : (k : Int) < m := by omega
      obtain ⟨b, off, fa, fc, rfl, hb, hty⟩ := (HT.out.grow h2.gr).at hkm
      have hlay := rlay_any hty.f hS hA (HF.out k hkm).1 (HF.out.mono (by omega)).good
      rw [← Ty.lie_eq (HF.out k hkm).1] at hlay
      have c0 := hty.c0
      have c1 := hty.c1
      have c2 := hty.c2
      have c3 := hty.c3
      have HS1 : Hid (Ty.szs T (k + 1) = Ty.szs T k ++ [(Ty.lie T k).size]) := Ty.szs_succ T k
      have HA1 : Hid (Ty.als T (k + 1) = Ty.als T k ++ [(Ty.lie T k).align]) := Ty.als_succ T k
      have HL : Hid (Calls Try.prog 34 #[.agg #[.int .i64 (T k).kind, .int .i64 (T k).elem, .int .i64 (T k).n, .slice fa (T k).nf fc], .slice sa k sc, .slice aa k ac] wr fun e w' => e = .returned (.tuple #[.int .i64 (Ty.lie T k).size, .int .i64 (Ty.lie T k).align]) ∧ wr.grownBy w' none) := hlay
      have l1 : (Ty.szs T k).length ≤ 2000000 := by rw [Ty.szs_len]; omega
      have l2 : (Ty.als T k).length ≤ 2000000 := by rw [Ty.als_len]; omega
      subst hu4 hu5
      clear h2 hS hA hty hlay
      generalize (Ty.lie T k).size = S at *
      generalize (Ty.lie T k).align = A at *
      generalize T k = x at *
      go_wp2_with (first
        | (go_at_call 34; refine HL.out.mono ?_; rintro e w3 ⟨rfl, hg3⟩; have H3 : Hid (Two w w3 (.slice sa k sc) (.slice aa k ac) (Ty.szs T k) (Ty.als T k)) := H2.out.grow hg3; have hs3 := hg3.size; clear hg3)
        | (at_builtin; refine wp_appY1 rfl _ _ rfl w.heap.size (.slice sa k sc) (Ty.szs T k) S rfl H3.out.oS rfl (by simp) l1 (by omega) ?_; intro v4 w4 ho4 hg4 hq4; have H4 : Hid (Two w w4 v4 (.slice aa k ac) (Ty.szs T k ++ [S]) (Ty.als T k)) := H3.out.putS ho4 hg4 hq4; have hs4 := hg4.size; clear ho4 hg4 hq4)
        | (at_builtin; refine wp_appY1 rfl _ _ rfl w.heap.size (.slice aa k ac) (Ty.als T k) A rfl H4.out.oA rfl (by simp) l2 (by omega) ?_; intro v5 w5 ho5 hg5 hq5; have H5 : Hid (Two w w5 v4 v5 (Ty.szs T k ++ [S]) (Ty.als T k ++ [A])) := H4.out.putA ho5 hg5 hq5; clear ho5 hg5 hq5))
      go_roundw
      case rel => exact ⟨k + 1, by go_num, by omega, by rw [HS1.out, HA1.out]; exact H5.out⟩
      case measure => simp [intOf]; omega
    · obtain rfl : k = m := by omega
      clear h2 hS hA hu4 hu5
      go_wp2
      go_ret2
      exact ⟨_, _, rfl, H2.out⟩
/-- what Lay tells -/
def LayR (T : Nat → Ty.TyV) (n : Nat) (w : World) (e : Ending) (w' : World) : Prop :=
  w.grownBy w' none ∧ ((Ty.chk T n ≠ 0 ∧ e = .returned (.tuple #[.slice none 0 0, .slice none 0 0, .int .i64 (Ty.chk T n)])) ∨ (Ty.chk T n = 0 ∧ ∃ vS vA, e = .returned (.tuple #[vS, vA, .int .i64 0]) ∧ Two w w' vS vA (Ty.szs T n) (Ty.als T n)))
theorem Ty.chk_zero {T : Nat → Ty.TyV} {n : Nat} (h64 : n ≤ 64) (hF : Ty.Fine T n n) : Ty.chk T n = 0 := by
  unfold Ty.chk
  rw [if_pos (Ty.tabB_iff.2 ⟨h64, fun i hi => (hF i hi).1⟩), if_pos (fun i hi => (hF i hi).2)]
theorem Ty.chk_seventy {T : Nat → Ty.TyV} {n : Nat} (h : ¬ (n ≤ 64 ∧ ∀ i, i < n → Ty.okB (T i) i n = true)) : Ty.chk T n = 70 := Ty.chk_form (by
  cases hh : Ty.tabB T n
  · rfl
  · exact absurd (Ty.tabB_iff.1 hh) h)
theorem Ty.chk_71 {T : Nat → Ty.TyV} {n k : Nat} (h64 : n ≤ 64) (ho : ∀ i, i < n → Ty.okB (T i) i n = true) (hk : k < n) (hl : 65536 < (Ty.lie T k).size) : Ty.chk T n = 71 := by
  unfold Ty.chk
  rw [if_pos (Ty.tabB_iff.2 ⟨h64, ho⟩), if_neg (fun h => by have := h k hk; omega)]
set_option maxRecDepth 100000 in
set_option maxHeartbeats 8000000 in
theorem rLay_any {N : Nat} {w : World} {T : Nat → Ty.TyV} {n : Nat} {a : Option Addr} {c : Nat} (h : TysIn N w a n c T) :
    Calls Try.prog 19 #[.slice a n c] w fun e w' => LayR T n w e w' := by
  have hle := h.le
  have hmx := h.max
  unfold maxLen at hmx
  by_cases h64 : n ≤ 64
  · have hn' : (n : Int) ≤ 64 := by omega
    have HT : Hid (TysIn N w a n c T) := h
    clear h
    go_enter Try.func19, Try.ntmps19
    go_wp2_with fail
    go_loopw [5] (fun ix wr => ∃ k : Nat, ix = .int .i64 k ∧ k ≤ n ∧ (∀ j, j < k → Ty.okB (T j) j n = true) ∧ w.grownBy wr none) (fun ix _ => n - (intOf ix).toNat)
    case atStart => exact ⟨0, rfl, Nat.zero_le _, fun j hj => by omega, World.grownBy.refl _ _⟩
    case round =>
      obtain ⟨k, rfl, hk, hj, hg⟩ := hrel
      have HJ : Hid (∀ j, j < k → Ty.okB (T j) j n = true) := hj
      have HG : Hid (w.grownBy wr none) := hg
      clear hj hg
      by_cases hkn : k < n
      · have hkn' : (k : Int) < n := by omega
        obtain ⟨b, off, fa, fc, rfl, hb, hc⟩ := (HT.out.grow HG.out).at hkn
        have c0 := hc.c0
        have c1 := hc.c1
        have c2 := hc.c2
        have c3 := hc.c3
        have HC : Hid (Calls Try.prog 33 #[.agg #[.int .i64 (T k).kind, .int .i64 (T k).elem, .int .i64 (T k).n, .slice fa (T k).nf fc], .int .i64 k, .int .i64 n] wr fun e w' => e = .returned (.bool (Ty.okB (T k) k n)) ∧ wr.grownBy w' none) := rentry_any hc.f k n
        clear hc
        cases hm : Ty.okB (T k) k n
        · have HE : Hid (Ty.chk T n = 70) := Ty.chk_seventy (fun h => by rw [h.2 k hkn] at hm; cases hm)
          rw [hm] at HC
          clear hm
          generalize T k = x at c0 c1 c2 c3 HC
          go_wp2_with (go_at_call 33; refine HC.out.mono ?_; rintro e w3 ⟨rfl, hg3⟩)
          refine bodyPost_ret (by simp [results, Try.results19, go_sem]; try rfl) rfl ?_
          refine ⟨grown_trans HG.out hg3, .inl ⟨by rw [HE.out]; decide, ?_⟩⟩
          rw [HE.out]
        · have HJ2 : Hid (∀ j, j < k + 1 → Ty.okB (T j) j n = true) := fun j hj' => by
            by_cases e : j = k
            · subst e; exact hm
            · exact HJ.out j (by omega)
          rw [hm] at HC
          clear hm
          generalize T k = x at c0 c1 c2 c3 HC
          go_wp2_with (go_at_call 33; refine HC.out.mono ?_; rintro e w3 ⟨rfl, hg3⟩)
          go_roundw
          case rel => exact ⟨k + 1, by go_num, by omega, HJ2.out, grown_trans HG.out hg3⟩
          case measure => simp [intOf]; omega
      · obtain rfl : k = n := by omega
        obtain ⟨wo, hwo⟩ : ∃ wo, wo = wr := ⟨_, rfl⟩
        rw [← hwo] at HG ⊢
        clear hwo
        go_wp2_with fail
        go_loopw [6, 7, 8] (fun vS vA ix wr => ∃ q : Nat, ix = .int .i64 q ∧ q ≤ k ∧ Ty.Fine T k q ∧ Two w wr vS vA (Ty.szs T q) (Ty.als T q)) (fun _ _ ix _ => k - (intOf ix).toNat)
        case atStart => exact ⟨0, rfl, Nat.zero_le _, (fun j hj => by omega), (Two.nil w).grow HG.out⟩
        case round =>
          obtain ⟨q, rfl, hq, hF, h2⟩ := hrel
          have H2 : Hid (Two w wr u6 u7 (Ty.szs T q) (Ty.als T q)) := h2
          have HF : Hid (Ty.Fine T k q) := hF
          obtain ⟨sa, sc, aa, ac, hu6, hu7, hS, hA⟩ := h2.nums
          have hsz := h2.gr.size
          by_cases hqn : q < k
          · have hqn' : (q : Int) < k := by omega
            obtain ⟨b, off, fa, fc, rfl, hb, hty⟩ := (HT.out.grow h2.gr).at hqn
            have hoq := HJ.out q hqn
            have hlay := rlay_any hty.f hS hA hoq hF.good
            rw [← Ty.lie_eq hoq] at hlay
            have c0 := hty.c0
            have c1 := hty.c1
            have c2 := hty.c2
            have c3 := hty.c3
            have HS1 : Hid (Ty.szs T (q + 1) = Ty.szs T q ++ [(Ty.lie T q).size]) := Ty.szs_succ T q
            have HA1 : Hid (Ty.als T (q + 1) = Ty.als T q ++ [(Ty.lie T q).align]) := Ty.als_succ T q
            have HL : Hid (Calls Try.prog 34 #[.agg #[.int .i64 (T q).kind, .int .i64 (T q).elem, .int .i64 (T q).n, .slice fa (T q).nf fc], .slice sa q sc, .slice aa q ac] wr fun e w' => e = .returned (.tuple #[.int .i64 (Ty.lie T q).size, .int .i64 (Ty.lie T q).align]) ∧ wr.grownBy w' none) := hlay
            have l1 : (Ty.szs T q).length ≤ 2000000 := by rw [Ty.szs_len]; omega
            have l2 : (Ty.als T q).length ≤ 2000000 := by rw [Ty.als_len]; omega
            by_cases hlg : 65536 < (Ty.lie T q).size
            · have HE : Hid (Ty.chk T k = 71) := Ty.chk_71 h64 HJ.out hqn hlg
              subst hu6 hu7
              clear h2 hS hA hty hlay hF hoq
              generalize (Ty.lie T q).size = S at *
              generalize (Ty.lie T q).align = A at *
              generalize T q = x at c0 c1 c2 c3 HL
              go_wp2_with (go_at_call 34; refine HL.out.mono ?_; rintro e w3 ⟨rfl, hg3⟩; have H3 : Hid (Two w w3 (.slice sa q sc) (.slice aa q ac) (Ty.szs T q) (Ty.als T q)) := H2.out.grow hg3; clear hg3)
              refine bodyPost_ret (by simp [results, Try.results19, go_sem]; try rfl) rfl ?_
              refine ⟨H3.out.gr, .inl ⟨by rw [HE.out]; decide, ?_⟩⟩
              rw [HE.out]
            · have HF2 : Hid (Ty.Fine T k (q + 1)) := fun j hj => by
                by_cases e : j = q
                · subst e; exact ⟨hoq, by omega⟩
                · exact HF.out j (by omega)
              subst hu6 hu7
              clear h2 hS hA hty hlay hF hoq
              generalize (Ty.lie T q).size = S at *
              generalize (Ty.lie T q).align = A at *
              generalize T q = x at c0 c1 c2 c3 HL
              go_wp2_with (first
                | (go_at_call 34; refine HL.out.mono ?_; rintro e w3 ⟨rfl, hg3⟩; have H3 : Hid (Two w w3 (.slice sa q sc) (.slice aa q ac) (Ty.szs T q) (Ty.als T q)) := H2.out.grow hg3; have hs3 := hg3.size; clear hg3)
                | (at_builtin; refine wp_appY1 rfl _ _ rfl w.heap.size (.slice sa q sc) (Ty.szs T q) S rfl H3.out.oS rfl (by simp) l1 (by omega) ?_; intro v4 w4 ho4 hg4 hq4; have H4 : Hid (Two w w4 v4 (.slice aa q ac) (Ty.szs T q ++ [S]) (Ty.als T q)) := H3.out.putS ho4 hg4 hq4; have hs4 := hg4.size; clear ho4 hg4 hq4)
                | (at_builtin; refine wp_appY1 rfl _ _ rfl w.heap.size (.slice aa q ac) (Ty.als T q) A rfl H4.out.oA rfl (by simp) l2 (by omega) ?_; intro v5 w5 ho5 hg5 hq5; have H5 : Hid (Two w w5 v4 v5 (Ty.szs T q ++ [S]) (Ty.als T q ++ [A])) := H4.out.putA ho5 hg5 hq5; clear ho5 hg5 hq5))
              go_roundw
              case rel => exact ⟨q + 1, by go_num, by omega, HF2.out, by rw [HS1.out, HA1.out]; exact H5.out⟩
              case measure => simp [intOf]; omega
          · obtain rfl : q = k := by omega
            clear h2 hS hA hu6 hu7 hF
            go_wp2
            refine bodyPost_ret (by simp [results, Try.results19, go_sem]; try rfl) rfl ?_
            exact ⟨H2.out.gr, .inr ⟨Ty.chk_zero h64 HF.out, _, _, rfl, H2.out⟩⟩
  · have h64' : (64 : Int) < n := by omega
    have HE : Hid (Ty.chk T n = 70) := Ty.chk_seventy (fun h => h64 h.1)
    clear h
    go_enter Try.func19, Try.ntmps19
    go_wp2
    refine bodyPost_ret (by simp [results, Try.results19, go_sem]; try rfl) rfl ?_
    refine ⟨World.grownBy.refl _ _, .inl ⟨by rw [HE.out]; decide, ?_⟩⟩
    rw [HE.out]
theorem rCheck_any {N : Nat} {w : World} {T : Nat → Ty.TyV} {n : Nat} {a : Option Addr} {c : Nat} (h : TysIn N w a n c T) :
    Calls Try.prog 7 #[.slice a n c] w fun e w' => e = .returned (.int .i64 (Ty.chk T n)) ∧ w.grownBy w' none := by
  have HC : Hid (Calls Try.prog 19 #[.slice a n c] w fun e w' => ∃ v1 v2, e = .returned (.tuple #[v1, v2, .int .i64 (Ty.chk T n)]) ∧ w.grownBy w' none) := (rLay_any h).mono (by
    rintro e w' ⟨hg, ⟨h1, rfl⟩ | ⟨h1, v1, v2, rfl, _⟩⟩
    · exact ⟨_, _, rfl, hg⟩
    · exact ⟨v1, v2, by rw [h1], hg⟩)
  generalize Ty.chk T n = Z at *
  clear h
  go_enter Try.func7, Try.ntmps7
  go_wp2_with (go_at_call 19; refine HC.out.mono ?_; rintro e w3 ⟨v1, v2, rfl, hg3⟩)
  go_ret
  exact ⟨rfl, hg3⟩
end Go.Proofs.Ytlkldehapkgdaaa

/- gantryref7.Offset. -/
namespace Go.Proofs.Ytlkldehapkgdaaa
open Go.RowKit
set_option linter.unusedVariables false

theorem TysIn.cut {N : Nat} {w : World} {a : Option Addr} {n c : Nat} {T : Nat → Ty.TyV} (h : TysIn N w a n c T) {m : Nat} (hm : m ≤ n) : TysIn N w a m c T :=
  ⟨Nat.le_trans hm h.le, h.max, by
    rcases h.lie with h0 | ⟨b, off, e, hb, hi⟩
    · exact .inl (by omega)
    · exact .inr ⟨b, off, e, hb, fun i hi' => hi i (by omega)⟩⟩
/-- where it stands ahead of field k, on the way to field f -/
def Ty.upTo (x : Ty.TyV) (L : Nat → Ty.Li) (f k : Nat) : Int := if k ≤ f then Ty.en x L k else Ty.bg x L f
set_option maxRecDepth 100000 in
set_option maxHeartbeats 8000000 in
theorem rOffset_gen {N : Nat} {w : World} {T : Nat → Ty.TyV} {n n' : Nat} {a : Option Addr} {c : Nat} (h : TysIn N w a n c T) (hN : N ≤ w.heap.size) (h64 : n ≤ 64) (hF : Ty.Fine T n' n) {i f : Nat} (hi : i < n) (hf : f < (T i).nf) :
    Calls Try.prog 28 #[.slice a n c, .int .i64 i, .int .i64 f] w fun e w' => e = .returned (.int .i64 (Ty.bg (T i) (Ty.lie T) f)) ∧ w.grownBy w' none := by
  have hle := h.le
  have hmx := h.max
  unfold maxLen at hmx
  have hi' : (i : Int) < n := by omega
  have hok := (hF i hi).1
  obtain ⟨h16, hfl⟩ := Ty.flds_in hok
  have HL : Hid (Calls Try.prog 43 #[.slice a i c] w fun e w' => ∃ vS vA, e = .returned (.tuple #[vS, vA]) ∧ Two w w' vS vA (Ty.szs T i) (Ty.als T i)) := rlaid_any (h.cut (Nat.le_of_lt hi)) (by omega) (hF.mono (Nat.le_of_lt hi))
  obtain ⟨b, off, fa, fc, rfl, hb, hty⟩ := h.at hi
  have HTy : Hid (TyC N w b (off + i * 4) (T i) fa fc) := hty
  have HFi : Hid (∀ k, k < (T i).nf → 0 ≤ (T i).F k ∧ (T i).F k < i) := hfl
  have HGf : Hid (∀ k, k < (T i).nf → Ty.Good (Ty.fl (T i) (Ty.lie T) k) ∧ (Ty.fl (T i) (Ty.lie T) k).size ≤ 65536) := fun k hk => hF.good _ (by have := hfl k hk; omega)
  have hfl1 := hty.f.le
  have hfm := hty.f.max
  unfold maxLen at hfm
  obtain ⟨R, hR⟩ : ∃ R, R = Ty.bg (T i) (Ty.lie T) f := ⟨_, rfl⟩
  rw [← hR]
  have HR : Hid (R = Ty.bg (T i) (Ty.lie T) f) := hR
  clear h hF hok hfl hty hR
  generalize T i = x at *
  go_enter Try.func28, Try.ntmps28
  go_wp2_with (go_at_call 43; refine HL.out.mono ?_; rintro e w3 ⟨vS, vA, rfl, h3⟩; have H3 : Hid (Two w w3 vS vA (Ty.szs T i) (Ty.als T i)) := h3; obtain ⟨sa, sc, aa, ac, hvS, hvA, hS, hA⟩ := h3.nums; have HS : Hid (NumIn w3.heap.size w3 sa i sc (fun j => (Ty.lie T j).size)) := hS; have HA : Hid (NumIn w3.heap.size w3 aa i ac (fun j => (Ty.lie T j).align)) := hA; subst hvS hvA; clear h3 hS hA)
  have HG3 : Hid (w.grownBy w3 none) := H3.out.gr
  have hT3 := HTy.out.ch (l := []) (Ch.of HG3.out) (by simp) (by simp)
  have HT3 : Hid (TyC N w3 b (off + i * 4) x fa fc) := hT3
  clear hT3
  go_loopw [9, 10] (fun z ix wr => ∃ k : Nat, ix = .int .i64 k ∧ z = .int .i64 (Ty.upTo x (Ty.lie T) f k) ∧ k ≤ f + 1 ∧ wr = w3) (fun _ ix _ => f + 1 - (intOf ix).toNat)
  case atStart => exact ⟨0, rfl, by unfold Ty.upTo; rw [if_pos (Nat.zero_le _)]; rfl, Nat.zero_le _, by first | rfl | trivial⟩
  case round =>
    obtain ⟨k, rfl, rfl, hk, hw⟩ := hrel
    subst hw
    by_cases hkf : k ≤ f
    · have hkf' : (k : Int) ≤ f := by omega
      have hkn : k < x.nf := by omega
      have hkn' : (k : Int) < x.nf := by omega
      have c3 := HT3.out.c3
      obtain ⟨fb, fo, rfl, hcf⟩ := HT3.out.f.val hkn
      have hfk := HFi.out k hkn
      obtain ⟨j, hj⟩ : ∃ j : Nat, x.F k = j := ⟨(x.F k).toNat, by omega⟩
      have hji : j < i := by omega
      have hji' : (j : Int) < i := by omega
      obtain ⟨b1, o1, rfl, c1⟩ := HS.out.val hji
      obtain ⟨b2, o2, rfl, c2⟩ := HA.out.val hji
      rw [hj] at hcf
      have hfe : Ty.fl x (Ty.lie T) k = Ty.lie T j := by unfold Ty.fl; rw [hj]; rfl
      obtain ⟨hgd, hs6⟩ := HGf.out k hkn
      have hen := Ty.en_spec (k := k) fun q hq => HGf.out q (by omega)
      rw [hfe] at hgd hs6
      have hs0 : 0 ≤ (Ty.lie T j).size := by have := hgd.w0; have := hgd.ws; omega
      have ha := hgd.al
      have hu : Ty.upTo x (Ty.lie T) f k = Ty.en x (Ty.lie T) k := by unfold Ty.upTo; rw [if_pos hkf]
      rw [hu]
      by_cases hlt : k < f
      · have hlt' : (k : Int) < f := by omega
        have HE : Hid (Ty.upTo x (Ty.lie T) f (k + 1) = Ty.up (Ty.en x (Ty.lie T) k) (Ty.lie T j).align + (Ty.lie T j).size) := by show _ = _; unfold Ty.upTo; rw [if_pos (by omega), Ty.en, hfe]
        clear hgd hfe hj hfk hu
        generalize Ty.en x (Ty.lie T) k = E at *
        generalize (Ty.lie T j).size = S at *
        generalize (Ty.lie T j).align = A at *
        rcases ha with rfl | rfl | rfl | rfl
        all_goals (
          go_wp2
          have hE := HE.out
          unfold Ty.up at hE
          go_roundw
          case rel => exact ⟨k + 1, by go_num, by first | (rw [hE]; done) | (rw [hE]; congr 1; done) | (rw [hE]; congr 1; omega), by omega, by first | rfl | trivial⟩
          case measure => first | (simp [intOf]; done) | (simp [intOf]; omega))
      · obtain rfl : k = f := by omega
        have hlt' : ¬ (k : Int) < k := by omega
        have HE : Hid (Ty.upTo x (Ty.lie T) k (k + 1) = Ty.up (Ty.en x (Ty.lie T) k) (Ty.lie T j).align) := by show _ = _; unfold Ty.upTo; rw [if_neg (by omega), Ty.bg, hfe]
        clear hgd hfe hj hfk hu
        generalize Ty.en x (Ty.lie T) k = E at *
        generalize (Ty.lie T j).size = S at *
        generalize (Ty.lie T j).align = A at *
        rcases ha with rfl | rfl | rfl | rfl
        all_goals (
          go_wp2
          have hE := HE.out
          unfold Ty.up at hE
          go_roundw
          case rel => exact ⟨k + 1, by go_num, by first | (rw [hE]; done) | (rw [hE]; congr 1; done) | (rw [hE]; congr 1; omega), by omega, by first | rfl | trivial⟩
          case measure => first | (simp [intOf]; done) | (simp [intOf]; omega))
    · have hkf' : ¬ (k : Int) ≤ f := by omega
      have hu : Ty.upTo x (Ty.lie T) f k = R := by rw [HR.out]; unfold Ty.upTo; rw [if_neg hkf]
      rw [hu]
      clear hu
      go_wp2
      go_ret
      exact ⟨rfl, HG3.out⟩
theorem rOffset_any {N : Nat} {w : World} {T : Nat → Ty.TyV} {n : Nat} {a : Option Addr} {c : Nat} (h : TysIn N w a n c T) (hN : N ≤ w.heap.size) (hc : Ty.chk T n = 0) {i f : Nat} (hi : i < n) (hf : f < (T i).nf) :
    Calls Try.prog 28 #[.slice a n c, .int .i64 i, .int .i64 f] w fun e w' => e = .returned (.int .i64 (Ty.bg (T i) (Ty.lie T) f)) ∧ w.grownBy w' none := rOffset_gen h hN (Ty.chk_ok hc).1 (Ty.chk_ok hc).2 hi hf
end Go.Proofs.Ytlkldehapkgdaaa

/- What gantryref7.lots keeps. -/
namespace Go.Proofs.Ytlkldehapkgdaaa
open Go.RowKit
set_option linter.unusedVariables false

/-- one number appended, in a region that draws -/
theorem stepY1d {ops : Array Oper} {o : Oper} {a : Act} {Q : Exit → Act → World → Prop} {K : Act → World → Prop} {E : Prop} {W : World} (hgd : o.guard = none) (s x : Operand)
    (ho : o.op = .call { callee := .builtin .append, args := #[s, x], argTypes := #[25, 25] }) (base : Nat) (v : Value) (l : List Int) (X : Int) (hs : a.eval s = v) (hown : OwnZ W base v l)
    (hx : a.eval x = .slice (some ⟨W.heap.size, 0, none⟩) 1 1) (hl : l.length ≤ 2000000) (hb : base ≤ W.heap.size)
    (h : ∀ v' w', OwnZ w' base v' (l ++ [X]) → W.grownBy w' v.ownBlock → (∀ q, v'.ownBlock = some q → v.ownBlock = some q ∨ W.heap.size ≤ q) → K (a.put o.dst v') w') :
    if Region.wanted o (yielded ops a.tmps) = true then Oper.wp Try.prog o a (W.alloc (Obj.cells #[.int .i64 X] 3)).drew K Q else E := by
  have hw : Region.wanted o (yielded ops a.tmps) = true := by simp [Region.wanted, hgd]
  rw [if_pos hw]
  obtain ⟨i, hi, hz0, hz1, hz2⟩ := info_parts info_int
  have hgA : W.grownBy (W.alloc (Obj.cells #[.int .i64 X] 3)).drew none := grown_drew (World.grownBy_alloc _ _ _)
  have hl1 : OwnZ (W.alloc (Obj.cells #[.int .i64 X] 3)).drew W.heap.size (.slice (some ⟨W.heap.size, 0, none⟩) 1 1) [X] := OwnZ.grow (World.ownsRow_lit (base := W.heap.size) (e := 3) (size := 1) W #[.int .i64 X] 1 (Nat.le_refl _) (by decide) rfl) (grown_drew (World.grownBy.refl _ _))
  have hn : ∀ j u, ([X].map (Value.int .i64))[j]? = some u → (W.alloc (Obj.cells #[.int .i64 X] 3)).drew.cell? ((⟨W.heap.size, 0, none⟩ : Addr).add j) = some u := fun j y hj => World.ownsRow.cells hl1 rfl j y hj
  have hown' := hown.grow hgA
  have hsz : (W.alloc (Obj.cells #[.int .i64 X] 3)).drew.heap.size = W.heap.size + 1 := by simp
  obtain ⟨v', w', hr, h2, h3, h4⟩ := run_append_own (P := Try.prog) (W.alloc (Obj.cells #[.int .i64 X] 3)).drew base 25 o.type 3 i (.int .i64 0) 1 8 Try.underlying25 hi hz0 hz1 hz2 rfl (by decide) v l.length (l.map (Value.int .i64)) hown' ⟨W.heap.size, 0, none⟩ 1 1 ([X].map (Value.int .i64)) (by simp) hn
    (by intro y hy; obtain ⟨z, _, rfl⟩ := List.mem_map.mp hy; rfl) (by unfold maxLen; omega) (by omega) (by omega)
  have hbk := app_block hown' ⟨W.heap.size, 0, none⟩ [X] 1 (by simp) hn hl (by simp) o.type hr
  unfold Oper.wp execOp
  simp only [ho, resolve, invoke, builtin, Sem.run_bind, Sem.run_pure, Result.andThen_ok, List.map_toArray, List.map_cons, List.map_nil, hs, hx, hr]
  refine h v' w' ?_ (grown_trans (grown_noneR _ hgA) h3) (fun q hv => ?_)
  · unfold OwnZ
    rw [List.length_append, List.map_append]
    exact h2
  · rcases hbk with e | e
    · exact .inl (e ▸ hv)
    · rw [e, hsz] at hv; injection hv with hv; exact .inr (by omega)
/-- the row of a lot -/
structure Lt where
  ka : Option Addr
  n : Nat
  kc : Nat
  oa : Option Addr
  oc : Nat
  arr : Bool
def cells3 (e : Lt) : List Value := [.slice e.ka e.n e.kc, .slice e.oa e.n e.oc, .bool e.arr]
def OwnLt (w : World) (base : Nat) (v : Value) (l : List Lt) : Prop := w.ownsRow base 73 3 v l.length (l.flatMap cells3)
theorem info_lot : (Try.prog.info? 73).map (fun i => (i.zero, i.size, i.bytes)) = some (some (.agg #[.slice none 0 0, .slice none 0 0, .bool false]), 3, 56) := by kernel_rfl
theorem flat3_at : ∀ (l : List Lt) (i k : Nat) (hi : i < l.length), k < 3 → (l.flatMap cells3)[i * 3 + k]? = (cells3 l[i])[k]?
  | [], i, k, hi, _ => by simp at hi
  | v :: l, 0, k, _, hk => by
    rw [List.flatMap_cons, List.getElem?_append_left (by simp [cells3]; omega)]
    simp
  | v :: l, i + 1, k, hi, hk => by
    have h4 : (cells3 v).length = 3 := rfl
    rw [List.flatMap_cons, List.getElem?_append_right (by rw [h4]; omega), h4, show (i + 1) * 3 + k - 3 = i * 3 + k by omega]
    exact flat3_at l i k (by simpa using hi) hk
theorem OwnLt.grow {w w' : World} {base : Nat} {v : Value} {l : List Lt} (h : OwnLt w base v l) (hg : w.grownBy w' none) : OwnLt w' base v l := World.ownsRow.kept h hg (Classical.em _)
theorem OwnLt.base {w : World} {base : Nat} {v : Value} {l : List Lt} (h : OwnLt w base v l) : ∀ k, v.ownBlock = some k → base ≤ k := fun k hk => (World.ownsRow.lt h k hk).1
theorem OwnLt.apart {w : World} {base b : Nat} {v : Value} {l : List Lt} (h : OwnLt w base v l) (hb : IntB w b) : v.ownBlock ≠ some b := by
  intro e
  rcases h.2 with ⟨rfl, _⟩ | ⟨g, c, cur, rfl, _, hg, _⟩
  · cases e
  · simp [Value.ownBlock] at e
    subst e
    obtain ⟨cur', h'⟩ := hb
    rw [hg] at h'
    simp at h'
/-- one lot more -/
theorem wp_appL {ops : Array Oper} {rest : List Oper} {o : Oper} {a : Act} {Q : Exit → Act → World → Prop} {W : World} (hgd : o.guard = none) (s x : Operand)
    (ho : o.op = .call { callee := .builtin .append, args := #[s, x], argTypes := #[74, 74] }) (base : Nat) (v : Value) (l : List Lt) (u : Lt) (hs : a.eval s = v) (hown : OwnLt W base v l)
    {nb : Nat} (hx : a.eval x = .slice (some ⟨nb, 0, none⟩) 1 1) (hnb : nb = W.heap.size) (hl : l.length ≤ 100000) (hb : base ≤ W.heap.size)
    (h : ∀ v' w', OwnLt w' base v' (l ++ [u]) → W.grownBy w' v.ownBlock → wpList Try.prog ops Q rest (a.put o.dst v') w') : wpList Try.prog ops Q (o :: rest) a (W.alloc (Obj.cells #[.slice u.ka u.n u.kc, .slice u.oa u.n u.oc, .bool u.arr] 73)) := by
  subst hnb
  obtain ⟨i, hi, hz0, hz1, hz2⟩ := info_parts info_lot
  refine wpList_append_own _ hgd s x 74 ho base 73 i _ 3 56 Try.underlying74 hi hz0 hz1 hz2 rfl (by decide) v l.length (l.flatMap cells3) hs (World.ownsRow.alloc hown _) ⟨W.heap.size, 0, none⟩ 1 1 (cells3 u) hx rfl
    (by intro j y hj; rw [addr_add, Nat.zero_add, cells_new _ _ rfl]; rw [← hj]; simp [cells3]) (by intro y hy; simp [cells3] at hy; rcases hy with rfl | rfl | rfl <;> rfl) (by unfold maxLen; omega) (by omega) (by simp; omega) ?_
  intro v' w2 ho2 hg2 _
  refine h v' w2 ?_ (grown_trans (grown_noneR _ (World.grownBy_alloc _ _ _)) hg2)
  unfold OwnLt
  rw [List.length_append, List.flatMap_append]
  simpa using ho2
/-- a lot's words: no more than seventeen -/
def Ty.w17 (T : Nat → Ty.TyV) (i : Nat) : List (Int × Int) := (Ty.wk T i).take 17
def atF (l : List Int) (q : Nat) : Int := l.getD q 0
/-- what is told of a lot -/
structure LtOk (w : World) (e : Lt) (l : List (Int × Int)) (ar : Bool) : Prop where
  n : e.n = l.length
  arr : e.arr = ar
  k : NumIn w.heap.size w e.ka e.n e.kc (atF (Ty.k1 l))
  o : NumIn w.heap.size w e.oa e.n e.oc (atF (Ty.k2 l))
  bk : ∀ b q, e.ka = some ⟨b, q, none⟩ → IntB w b
  bo : ∀ b q, e.oa = some ⟨b, q, none⟩ → IntB w b
theorem LtOk.ch {w w' : World} {e : Lt} {l : List (Int × Int)} {ar : Bool} {L : List Nat} (h : LtOk w e l ar) (hg : Ch w w' L) (hL : ∀ b, IntB w b → b ∉ L) : LtOk w' e l ar :=
  ⟨h.n, h.arr, (h.k.ch2 hg (fun b q e => hL b (h.bk b q e))).up hg.size, (h.o.ch2 hg (fun b q e => hL b (h.bo b q e))).up hg.size, fun b q e => (h.bk b q e).ch hg (hL b (h.bk b q e)), fun b q e => (h.bo b q e).ch hg (hL b (h.bo b q e))⟩
theorem LtOk.grow {w w' : World} {e : Lt} {l : List (Int × Int)} {ar : Bool} (h : LtOk w e l ar) (hg : w.grownBy w' none) : LtOk w' e l ar := h.ch (L := []) (Ch.of hg) (by simp)
structure Lts (w wr : World) (T : Nat → Ty.TyV) (k : Nat) (v : Value) (l : List Lt) : Prop where
  own : OwnLt wr w.heap.size v l
  len : l.length = k
  ent : ∀ i (hi : i < l.length), LtOk wr l[i] (Ty.w17 T i) (Ty.lie T i).arr
  gr : w.grownBy wr none
theorem Lts.grow {w wr w' : World} {T : Nat → Ty.TyV} {k : Nat} {v : Value} {l : List Lt} (h : Lts w wr T k v l) (hg : wr.grownBy w' none) : Lts w w' T k v l :=
  ⟨h.own.grow hg, h.len, fun i hi => (h.ent i hi).grow hg, grown_trans h.gr hg⟩
theorem Lts.slice {w wr : World} {T : Nat → Ty.TyV} {k : Nat} {v : Value} {l : List Lt} (h : Lts w wr T k v l) : ∃ a c, v = .slice a k c ∧ k ≤ c ∧ c ≤ maxLen ∧ ∀ i (hi : i < k), ∃ b, a = some ⟨b, 0, none⟩ ∧ ∀ q, q < 3 → wr.cell? ⟨b, i * 3 + q, none⟩ = (cells3 (l[i]'(by rw [h.len]; exact hi)))[q]? := by
  have hl := h.len
  subst hl
  rcases h.own.2 with ⟨rfl, h0⟩ | ⟨g, c, cur, rfl, hb, hg, hc, hcm, _⟩
  · exact ⟨none, 0, by rw [h0], by omega, Nat.zero_le _, fun i hi => by omega⟩
  · exact ⟨_, c, rfl, hc, hcm, fun i hi => ⟨g, rfl, fun q hq => (World.ownsRow.cellAt h.own (i * 3 + q) (by omega)).trans (flat3_at l i q hi hq)⟩⟩
/-- a lot that is being made, in block B -/
structure Lx (wb wr : World) (B : Nat) (vK vO : Value) (ar : Bool) (lK lO : List Int) : Prop where
  blk : wr.heap[B]? = some (.cells #[vK, vO, .bool ar] 73 (0, 0))
  oK : OwnZ wr (B + 1) vK lK
  oO : OwnZ wr (B + 1) vO lO
  ap : ∀ q, vK.ownBlock = some q → vO.ownBlock ≠ some q
  gr : wb.grownBy wr none
  hB : wb.heap.size ≤ B
theorem Lx.lt {wb wr : World} {B : Nat} {vK vO : Value} {ar : Bool} {lK lO : List Int} (h : Lx wb wr B vK vO ar lK lO) : B < wr.heap.size := (Array.getElem?_eq_some_iff.1 h.blk).1
theorem Lx.c0 {wb wr : World} {B : Nat} {vK vO : Value} {ar : Bool} {lK lO : List Int} (h : Lx wb wr B vK vO ar lK lO) : wr.cell? ⟨B, 0, none⟩ = some vK := by simp [World.cell?, h.blk]
theorem Lx.c1 {wb wr : World} {B : Nat} {vK vO : Value} {ar : Bool} {lK lO : List Int} (h : Lx wb wr B vK vO ar lK lO) : wr.cell? ⟨B, 1, none⟩ = some vO := by simp [World.cell?, h.blk]
theorem Lx.c2 {wb wr : World} {B : Nat} {vK vO : Value} {ar : Bool} {lK lO : List Int} (h : Lx wb wr B vK vO ar lK lO) : wr.cell? ⟨B, 2, none⟩ = some (.bool ar) := by simp [World.cell?, h.blk]
theorem Lx.fz {wb wr : World} {B : Nat} {vK vO : Value} {ar : Bool} {lK lO : List Int} (h : Lx wb wr B vK vO ar lK lO) (q : Nat) : wr.frozen? ⟨B, q, none⟩ = false := by simp [World.frozen?, h.blk]
theorem Lx.new (wb : World) : Lx wb (wb.alloc (.cells #[.slice none 0 0, .slice none 0 0, .bool false] 73)) wb.heap.size (.slice none 0 0) (.slice none 0 0) false [] [] :=
  ⟨heap_alloc_new wb _, ownZ_nil _ _, ownZ_nil _ _, (fun q h => by cases h), World.grownBy_alloc _ _ _, Nat.le_refl _⟩
theorem Lx.grow {wb wr w' : World} {B : Nat} {vK vO : Value} {ar : Bool} {lK lO : List Int} (h : Lx wb wr B vK vO ar lK lO) (hg : wr.grownBy w' none) : Lx wb w' B vK vO ar lK lO :=
  ⟨(hg.block B h.lt (by simp)).trans h.blk, h.oK.grow hg, h.oO.grow hg, h.ap, grown_trans h.gr hg, h.hB⟩
theorem setCell_block {w : World} {B q : Nat} {c : Array Value} {t : TypeId} {v : Value} (h : w.heap[B]? = some (.cells c t (0, 0))) : (w.setCell ⟨B, q, none⟩ v).heap[B]? = some (.cells (c.setIfInBounds q v) t (0, 0)) := by
  simp [World.setCell, Array.getElem?_modify, h]
theorem Lx.putA {wb wr : World} {B : Nat} {vK vO : Value} {ar : Bool} {lK lO : List Int} (h : Lx wb wr B vK vO ar lK lO) (b : Bool) : Lx wb (wr.setCell ⟨B, 2, none⟩ (.bool b)) B vK vO b lK lO := by
  have c : Ch wr (wr.setCell ⟨B, 2, none⟩ (.bool b)) [B] := Ch.one (grown_set _ _ _ _) (by simp)
  exact ⟨setCell_block h.blk, h.oK.ch c (fun q hq => by have := h.oK.base q hq; simp; omega), h.oO.ch c (fun q hq => by have := h.oO.base q hq; simp; omega), h.ap, ((Ch.of h.gr).trans c).nil (by simp; exact h.hB), h.hB⟩
theorem Lx.midK {wb wr w1 : World} {B : Nat} {vK vO : Value} {ar : Bool} {lK lO : List Int} (h : Lx wb wr B vK vO ar lK lO) (hg : wr.grownBy w1 vK.ownBlock) : w1.heap[B]? = some (.cells #[vK, vO, .bool ar] 73 (0, 0)) :=
  ((grown_ch hg).block B h.lt (by simp; intro e; have := h.oK.base _ e; omega)).trans h.blk
theorem Lx.midO {wb wr w1 : World} {B : Nat} {vK vO : Value} {ar : Bool} {lK lO : List Int} (h : Lx wb wr B vK vO ar lK lO) (hg : wr.grownBy w1 vO.ownBlock) : w1.heap[B]? = some (.cells #[vK, vO, .bool ar] 73 (0, 0)) :=
  ((grown_ch hg).block B h.lt (by simp; intro e; have := h.oO.base _ e; omega)).trans h.blk
theorem Lx.putK {wb wr w1 : World} {B : Nat} {vK vO vK' : Value} {ar : Bool} {lK lO lK' : List Int} (h : Lx wb wr B vK vO ar lK lO) (ho : OwnZ w1 (B + 1) vK' lK') (hg : wr.grownBy w1 vK.ownBlock) (hq : ∀ q, vK'.ownBlock = some q → vK.ownBlock = some q ∨ wr.heap.size ≤ q) :
    Lx wb (w1.setCell ⟨B, 0, none⟩ vK') B vK' vO ar lK' lO ∧ Ch wr (w1.setCell ⟨B, 0, none⟩ vK') (B :: vK.ownBlock.toList) := by
  have c1 : Ch wr w1 (B :: vK.ownBlock.toList) := (grown_ch hg).mono (fun k _ hk => by simp at hk ⊢; exact .inr hk)
  have c2 : Ch w1 (w1.setCell ⟨B, 0, none⟩ vK') (B :: vK.ownBlock.toList) := Ch.one (grown_set _ _ _ _) (by simp)
  have c0 := c1.trans c2
  refine ⟨⟨setCell_block (h.midK hg), ?_, ?_, ?_, ?_, h.hB⟩, c0⟩
  · exact ho.ch (l := [B]) (Ch.one (grown_set _ _ _ _) (by simp)) (fun q hq' => by have := ho.base q hq'; simp; omega)
  · exact h.oO.ch c0 (fun q hq' hm => by
      simp at hm
      rcases hm with e | e
      · have := h.oO.base q hq'; omega
      · exact h.ap q e hq')
  · intro q hq' e
    rcases hq q hq' with e1 | e1
    · exact h.ap q e1 e
    · have := h.oO.lt q e; omega
  · exact ((Ch.of h.gr).trans c0).nil (fun q hm => by
      simp at hm
      have := h.hB
      rcases hm with e | e
      · omega
      · have := h.oK.base q e; omega)
theorem Lx.putO {wb wr w1 : World} {B : Nat} {vK vO vO' : Value} {ar : Bool} {lK lO lO' : List Int} (h : Lx wb wr B vK vO ar lK lO) (ho : OwnZ w1 (B + 1) vO' lO') (hg : wr.grownBy w1 vO.ownBlock) (hq : ∀ q, vO'.ownBlock = some q → vO.ownBlock = some q ∨ wr.heap.size ≤ q) :
    Lx wb (w1.setCell ⟨B, 1, none⟩ vO') B vK vO' ar lK lO' ∧ Ch wr (w1.setCell ⟨B, 1, none⟩ vO') (B :: vO.ownBlock.toList) := by
  have c1 : Ch wr w1 (B :: vO.ownBlock.toList) := (grown_ch hg).mono (fun k _ hk => by simp at hk ⊢; exact .inr hk)
  have c2 : Ch w1 (w1.setCell ⟨B, 1, none⟩ vO') (B :: vO.ownBlock.toList) := Ch.one (grown_set _ _ _ _) (by simp)
  have c0 := c1.trans c2
  refine ⟨⟨setCell_block (h.midO hg), ?_, ?_, ?_, ?_, h.hB⟩, c0⟩
  · exact h.oK.ch c0 (fun q hq' hm => by
      simp at hm
      rcases hm with e | e
      · have := h.oK.base q hq'; omega
      · exact h.ap q hq' e)
  · exact ho.ch (l := [B]) (Ch.one (grown_set _ _ _ _) (by simp)) (fun q hq' => by have := ho.base q hq'; simp; omega)
  · intro q hq' e
    rcases hq q e with e1 | e1
    · exact h.ap q hq' e1
    · have := h.oK.lt q hq'; omega
  · exact ((Ch.of h.gr).trans c0).nil (fun q hm => by
      simp at hm
      have := h.hB
      rcases hm with e | e
      · omega
      · have := h.oO.base q e; omega)
theorem OwnZ.numT {w : World} {base n : Nat} {v : Value} {l : List Int} (h : OwnZ w base v l) (hn : l.length = n) : ∃ a c, v = .slice a n c ∧ NumIn w.heap.size w a n c (atF l) ∧ (∀ b q, a = some ⟨b, q, none⟩ → IntB w b) := by
  obtain ⟨a, c, rfl, hN⟩ := h.numIn (M := atF l) (n := n) hn (fun i _ => rfl)
  refine ⟨a, c, rfl, hN, fun b q e => ?_⟩
  subst e
  rcases h.2 with ⟨e, _⟩ | ⟨g, c', cur, e, _, hg, _⟩
  · cases e
  · injection e with e1
    injection e1 with e1
    injection e1 with e1
    subst e1
    exact ⟨cur, hg⟩
/-- the lot is laid to the others -/
theorem Lts.push {w wb wr w' : World} {T : Nat → Ty.TyV} {k B : Nat} {v v' vK vO : Value} {l : List Lt} {ar : Bool} {lK lO : List Int} {e : Lt} (h : Lts w wb T k v l) (hx : Lx wb wr B vK vO ar lK lO) (hK : lK = Ty.k1 (Ty.w17 T k)) (hO : lO = Ty.k2 (Ty.w17 T k)) (ha : ar = (Ty.lie T k).arr)
    (eK : vK = .slice e.ka e.n e.kc) (eO : vO = .slice e.oa e.n e.oc) (eA : e.arr = ar) (ho : OwnLt w' w.heap.size v' (l ++ [e])) (hg : wr.grownBy w' v.ownBlock) : Lts w w' T (k + 1) v' (l ++ [e]) := by
  have hr := h.grow hx.gr
  have hch := grown_ch hg
  have hap : ∀ b, IntB wr b → b ∉ v.ownBlock.toList := fun b hb hm => hr.own.apart hb (by simpa using hm)
  refine ⟨ho, by simp [h.len], fun i hi => ?_, ((Ch.of (l := v.ownBlock.toList) hr.gr).trans hch).nil (fun q hq => hr.own.base q (by simpa using hq))⟩
  by_cases hil : i < l.length
  · rw [List.getElem_append_left hil]
    exact (hr.ent i hil).ch hch hap
  · have hik : i = l.length := by simp at hi; omega
    subst hik
    rw [List.getElem_append_right (Nat.le_refl _)]
    simp only [Nat.sub_self, List.getElem_cons_zero]
    rw [h.len]
    subst hK hO
    obtain ⟨a1, c1, e1, n1, b1⟩ := hx.oK.numT (n := (Ty.w17 T k).length) (by simp [Ty.k1])
    obtain ⟨a2, c2, e2, n2, b2⟩ := hx.oO.numT (n := (Ty.w17 T k).length) (by simp [Ty.k2])
    rw [eK] at e1
    rw [eO] at e2
    injection e1 with p1 p2 p3
    injection e2 with q1 q2 q3
    refine LtOk.ch (w := wr) ⟨p2, by rw [eA, ha], ?_, ?_, ?_, ?_⟩ hch hap
    · rw [p1, p2, p3]; exact n1
    · rw [q1, q2, q3]; exact n2
    · rw [p1]; exact b1
    · rw [q1]; exact b2
end Go.Proofs.Ytlkldehapkgdaaa

/- A region that draws its order, whose head's operations each establish what is known of their own value, whatever came ahead: calls and allocations among them may be anywhere. -/
namespace Go.Proofs.Ytlkldehapkgdaaa
open Go.RowKit
set_option linter.unusedVariables false

section
variable {P : Program} {ops : Array Oper}

def dstOf (ops : Array Oper) (i : Nat) : Option Tmp := (ops[i]?).bind (·.dst)
/-- a frame in which the first i operations have left these values -/
def frV (ops : Array Oper) (a0 : Act) (V : Nat → Value) : Nat → Act
  | 0 => a0
  | i + 1 => (frV ops a0 V i).put (dstOf ops i) (V i)
/-- what the operation number i waits for, of those ahead of it -/
def depsOf (ops : Array Oper) (i : Nat) : List Nat := (List.range i).filter fun j => Region.waitsFor .any ops i j
/-- an operation looks at nothing that is written later; what it looks at of the head it waits for; it is not guarded -/
def lookB (ops : Array Oper) (n : Nat) : Bool :=
  (List.range n).all fun i => match ops[i]? with
    | none => false
    | some o => o.guard.isNone && (o.looksAt ops).all fun t => (List.range n).all fun k => !(dstOf ops k == some t) || (decide (k < i) && Region.waitsFor .any ops i k)

theorem lookB_spec {n i : Nat} {o : Oper} (h : lookB ops n = true) (hi : i < n) (ho : ops[i]? = some o) : o.guard = none ∧ ∀ t, t ∈ o.looksAt ops → ∀ k, k < n → dstOf ops k = some t → k < i ∧ Region.waitsFor .any ops i k = true := by
  have h1 := List.all_eq_true.1 h i (List.mem_range.2 hi)
  simp only [ho, Bool.and_eq_true, Option.isNone_iff_eq_none, List.all_eq_true, List.mem_range, Bool.or_eq_true, Bool.not_eq_true', beq_eq_false_iff_ne, decide_eq_true_eq] at h1
  refine ⟨h1.1, fun t ht k hk hd => ?_⟩
  rcases h1.2 t ht k hk with h2 | h2
  · exact absurd hd h2
  · exact h2

/-- the frame as it stands: what has come up has left its value, all else is as it was -/
structure FrInv (ops : Array Oper) (n : Nat) (a0 : Act) (Ψ : Nat → Value → World → Prop) (listed : Array Bool) (a : Act) (w : World) : Prop where
  size : a.tmps.size = a0.tmps.size
  defers : a.defers = a0.defers
  old : ∀ s, (∀ i, i < n → listed.getD i false = true → dstOf ops i ≠ some s) → a.tmps[s]? = a0.tmps[s]?
  val : ∀ i d, i < n → listed.getD i false = true → dstOf ops i = some d → Ψ i (a.tmps.getD d undef) w
  non : ∀ i, i < n → listed.getD i false = true → dstOf ops i = none → Ψ i undef w

def valOf (ops : Array Oper) (a : Act) (i : Nat) : Value := match dstOf ops i with | some d => a.tmps.getD d undef | none => undef

theorem put_size (a : Act) (d : Option Tmp) (v : Value) : (a.put d v).tmps.size = a.tmps.size := by cases d <;> simp [Act.put]
theorem put_same (a : Act) (d : Tmp) (v : Value) (h : d < a.tmps.size) : (a.put (some d) v).tmps[d]? = some v := by simp [Act.put, h]
theorem put_other (a : Act) {d : Option Tmp} {s : Nat} (v : Value) (h : d ≠ some s) : (a.put d v).tmps[s]? = a.tmps[s]? := by
  cases d with
  | none => rfl
  | some d =>
    have : d ≠ s := fun e => h (by rw [e])
    simp [Act.put, Array.getElem?_setIfInBounds_ne this]
theorem frV_size (a0 : Act) (V : Nat → Value) (i : Nat) : (frV ops a0 V i).tmps.size = a0.tmps.size := by
  induction i with
  | zero => rfl
  | succ i ih => rw [frV, put_size]; exact ih
theorem frV_defers (a0 : Act) (V : Nat → Value) (i : Nat) : (frV ops a0 V i).defers = a0.defers := by
  induction i with
  | zero => rfl
  | succ i ih => rw [frV, put_defers]; exact ih
/-- where it writes, it writes what stands in a -/
theorem frV_in (a0 a : Act) (hs : a.tmps.size = a0.tmps.size) (i : Nat) : ∀ s, (∃ j, j < i ∧ dstOf ops j = some s) → s < a0.tmps.size → (frV ops a0 (valOf ops a) i).tmps[s]? = a.tmps[s]? := by
  induction i with
  | zero => rintro s ⟨j, hj, _⟩; omega
  | succ i ih =>
    rintro s ⟨j, hj, hd⟩ hlt
    rw [frV]
    by_cases he : dstOf ops i = some s
    · rw [he, put_same _ _ _ (by rw [frV_size]; exact hlt)]
      unfold valOf
      rw [he]
      simp [hs, hlt]
    · rw [put_other _ _ he]
      refine ih s ⟨j, ?_, hd⟩ hlt
      rcases Nat.lt_succ_iff_lt_or_eq.1 hj with h | h
      · exact h
      · subst h; exact absurd hd he
theorem frV_out (a0 : Act) (V : Nat → Value) (i : Nat) : ∀ s, (∀ j, j < i → dstOf ops j ≠ some s) → (frV ops a0 V i).tmps[s]? = a0.tmps[s]? := by
  induction i with
  | zero => intro s _; rfl
  | succ i ih =>
    intro s h
    rw [frV, put_other _ _ (h i (by omega))]
    exact ih s fun j hj => h j (by omega)

/-- what an operation's step must show -/
def stepV (P : Program) (ops : Array Oper) (Ψ : Nat → Value → World → Prop) (i : Nat) (a : Act) (w : World) : Prop :=
  match ops[i]? with
  | none => False
  | some o => match (execOp a.eval o).run P w with
    | .ok (.value v) w' => w.grownBy w' none ∧ Ψ i v w'
    | .ok .skip w' => w.grownBy w' none ∧ Ψ i undef w'
    | .ok (.enter f args) w' => Calls P f args w' (fun e w'' => ∃ v, e = .returned v ∧ w.grownBy w'' none ∧ Ψ i v w'')
    | _ => False
def dstB (ops : Array Oper) (n sz : Nat) : Bool :=
  (List.range n).all fun i => (match dstOf ops i with | some d => decide (d < sz) | none => false) && (List.range n).all fun j => i == j || dstOf ops i == none || !(dstOf ops i == dstOf ops j)
theorem dstB_lt {n sz i d : Nat} (h : dstB ops n sz = true) (hi : i < n) (hd : dstOf ops i = some d) : d < sz := by
  have h1 := List.all_eq_true.1 h i (List.mem_range.2 hi)
  simp only [hd, Bool.and_eq_true, decide_eq_true_eq] at h1
  exact h1.1
theorem dstB_some {n sz i : Nat} (h : dstB ops n sz = true) (hi : i < n) : dstOf ops i ≠ none := by
  have h1 := List.all_eq_true.1 h i (List.mem_range.2 hi)
  intro e
  simp [e] at h1
theorem dstB_ne {n sz i j d : Nat} (h : dstB ops n sz = true) (hi : i < n) (hj : j < n) (hij : i ≠ j) (hd : dstOf ops i = some d) : dstOf ops j ≠ some d := by
  have h1 := List.all_eq_true.1 h i (List.mem_range.2 hi)
  simp only [Bool.and_eq_true] at h1
  have h2 := List.all_eq_true.1 h1.2 j (List.mem_range.2 hj)
  simp only [hd, Bool.or_eq_true, beq_iff_eq, hij, false_or, Bool.not_eq_true', beq_eq_false_iff_ne] at h2
  rcases h2 with h2 | h2
  · simp at h2
  · exact fun e => h2 e.symm
/-- all of the head, one behind the other -/
def lexed (m : Nat) : Nat → Array Bool
  | 0 => Array.replicate m false
  | k + 1 => (lexed m k).setIfInBounds k true
theorem lexed_size (m k : Nat) : (lexed m k).size = m := by
  induction k with
  | zero => simp [lexed]
  | succ k ih => simp [lexed, ih]
theorem lexed_get (m : Nat) : ∀ k j, j < m → (lexed m k).getD j false = decide (j < k) := by
  intro k
  induction k with
  | zero => intro j hj; simp [lexed, hj]
  | succ k ih =>
    intro j hj
    by_cases hkj : k = j
    · subst hkj
      have : k < (lexed m k).size := by rw [lexed_size]; exact hj
      simp [lexed, this]
    · rw [lexed, getD_set_ne false hkj, ih j hj]
      simp; omega
theorem lexHead_at {md : Region.Mode} {g : Nat} (m : Nat) : ∀ f k, Region.lexHead md ops g f k (lexed m k) = true → ∀ j, k ≤ j → j < k + f → j ∈ Region.ready md ops (lexed m j) := by
  intro f
  induction f with
  | zero => intro k _ j h1 h2; omega
  | succ f ih =>
    intro k h j h1 h2
    simp only [Region.lexHead, Bool.and_eq_true] at h
    by_cases hj : j = k
    · subst hj; simpa using h.1.1
    · exact ih (k + 1) h.2 j (by omega) (by omega)
theorem lexHead_end {md : Region.Mode} {g : Nat} (m : Nat) : ∀ f k, Region.lexHead md ops g f k (lexed m k) = true → Region.seqB md ops g (k + f) (lexed m (k + f)) = true := by
  intro f
  induction f with
  | zero => intro k h; exact h
  | succ f ih =>
    intro k h
    simp only [Region.lexHead, Bool.and_eq_true] at h
    have := ih (k + 1) h.2
    rwa [show k + 1 + f = k + (f + 1) by omega] at this
/-- how many of the head are still to come -/
def left (listed : Array Bool) (n : Nat) : Nat := ((List.range n).filter fun i => !listed.getD i false).length
theorem left_set {listed : Array Bool} {n i : Nat} (hi : i < n) (h : listed.getD i true = false) : left listed n = left (listed.setIfInBounds i true) n + 1 := by
  have hlt : i < listed.size := by
    rcases Nat.lt_or_ge i listed.size with h' | h'
    · exact h'
    · simp [Array.getElem?_eq_none h'] at h
  unfold left
  induction n with
  | zero => omega
  | succ n ih =>
    rw [List.range_succ, List.filter_append, List.filter_append, List.length_append, List.length_append]
    by_cases hin : i = n
    · subst hin
      have e1 : (List.range i).filter (fun j => !listed.getD j false) = (List.range i).filter (fun j => !(listed.setIfInBounds i true).getD j false) := by
        refine List.filter_congr fun j hj => ?_
        rw [getD_set_ne false (by have := List.mem_range.1 hj; omega)]
      rw [e1]
      have e2 : (listed.setIfInBounds i true).getD i false = true := by simp [hlt]
      have e3 : listed.getD i false = false := getD_both h
      have e4 : List.filter (fun j => !listed.getD j false) [i] = [i] := by simp only [List.filter_cons, e3]; rfl
      have e5 : List.filter (fun j => !(listed.setIfInBounds i true).getD j false) [i] = [] := by simp only [List.filter_cons, e2]; rfl
      rw [e4, e5]
      rfl
    · rw [ih (by omega)]
      have e6 : List.filter (fun j => !(listed.setIfInBounds i true).getD j false) [n] = List.filter (fun j => !listed.getD j false) [n] := by simp only [List.filter_cons, List.filter_nil, getD_set_ne false hin]
      rw [e6]
      omega
theorem left_zero {listed : Array Bool} {n : Nat} (h : left listed n = 0) : ∀ i, i < n → listed.getD i false = true := by
  intro i hi
  unfold left at h
  have := List.eq_nil_of_length_eq_zero h
  have h2 := List.filter_eq_nil_iff.1 this i (List.mem_range.2 hi)
  simpa using h2
theorem left_pos {listed : Array Bool} {n : Nat} (h : left listed n ≠ 0) : ∃ i, i < n ∧ listed.getD i false = false ∧ ∀ j, j < i → listed.getD j false = true := by
  have hex : ∃ i, i < n ∧ listed.getD i false = false := by
    refine Classical.byContradiction fun hno => h ?_
    unfold left
    rw [List.length_eq_zero_iff, List.filter_eq_nil_iff]
    intro i hi
    have : listed.getD i false ≠ false := fun e => hno ⟨i, List.mem_range.1 hi, e⟩
    simpa using this
  obtain ⟨i, hi⟩ := hex
  induction i using Nat.strongRecOn with
  | _ i ih =>
    by_cases hall : ∀ j, j < i → listed.getD j false = true
    · exact ⟨i, hi.1, hi.2, hall⟩
    · have : ∃ j, j < i ∧ listed.getD j false = false := by
        refine Classical.byContradiction fun hno => hall fun j hj => ?_
        have : listed.getD j false ≠ false := fun e => hno ⟨j, hj, e⟩
        simpa using this
      obtain ⟨j, hj, hjf⟩ := this
      exact ih j hj ⟨by omega, hjf⟩
theorem waits_listed {listed : Array Bool} {i j : Nat} (hr : i ∈ Region.ready .any ops listed) (h : Region.waitsFor .any ops i j = true) : listed.getD j false = true := by
  obtain ⟨_, o, ho, hall⟩ := mem_ready.1 hr
  obtain ⟨o', ho', e, he, hb, hon⟩ := Region.waitsFor_spec h
  obtain rfl : o' = o := Option.some.inj (ho'.symm.trans ho)
  rw [← hon]
  exact hall e he hb
theorem eval_same {a b : Act} {x : Operand} (h : ∀ t, x = .tmp t → a.tmps[t]? = b.tmps[t]?) : a.eval x = b.eval x := by
  cases x with
  | tmp t =>
    have := h t rfl
    simp only [Act.eval, Array.getD_eq_getD_getElem?, this]
  | _ => rfl
theorem any_of_inv {n : Nat} {a0 : Act} {W : World} {Q : Exit → Act → World → Prop} {Ψ : Nat → Value → World → Prop} {l : List Oper} (hl : ops = l.toArray)
    (hst : ∀ i v w w', i < n → Ψ i v w → w.grownBy w' none → Ψ i v w')
    (hsel : Region.noSelect ops = true) (hn : n < ops.size) (hs : Region.sinkB .any ops n = true) (hc : Region.chainB .any ops n = true) (hlex : Region.lexHead .any ops (ops.size - n) n 0 (lexed ops.size 0) = true)
    (hL : lookB ops n = true) (hD : dstB ops n a0.tmps.size = true)
    (hstep : ∀ i, i < n → ∀ V w', W.grownBy w' none → (∀ j, (depsOf ops i).contains j = true → Ψ j (V j) w') → stepV P ops Ψ i (frV ops a0 V i) w')
    (hend : ∀ V w', W.grownBy w' none → (∀ i, i < n → Ψ i (V i) w') → wpList P ops Q (l.drop n) (frV ops a0 V n) w') (f : Nat) :
    ∀ listed a w, left listed n = f → HeadInv .any ops n listed → FrInv ops n a0 Ψ listed a w → W.grownBy w none → wpAny P .any ops Q (f + (ops.size - n)) listed a w := by
  have hval : ∀ {listed a w i}, FrInv ops n a0 Ψ listed a w → i < n → listed.getD i false = true → Ψ i (valOf ops a i) w := by
    intro listed a w i inv hi hli
    unfold valOf
    cases hd : dstOf ops i with
    | none => exact inv.non i hi hli hd
    | some d => exact inv.val i d hi hli hd
  induction f with
  | zero =>
    intro listed a w hf hinv inv hg
    have hall := left_zero hf
    have ea : a = frV ops a0 (valOf ops a) n := by
      obtain ⟨tm, df⟩ := a
      have h1 : tm = (frV ops a0 (valOf ops ⟨tm, df⟩) n).tmps := by
        apply Array.ext_getElem?
        intro s
        by_cases hex : ∃ j, j < n ∧ dstOf ops j = some s
        · obtain ⟨j, hj, hd⟩ := hex
          exact (frV_in a0 ⟨tm, df⟩ inv.size n s ⟨j, hj, hd⟩ (dstB_lt hD hj hd)).symm
        · have hno : ∀ j, j < n → dstOf ops j ≠ some s := fun j hj hd => hex ⟨j, hj, hd⟩
          rw [frV_out a0 _ n s hno]
          exact inv.old s fun i hi _ => hno i hi
      have h2 : df = (frV ops a0 (valOf ops ⟨tm, df⟩) n).defers := by rw [frV_defers]; exact inv.defers
      generalize frV ops a0 (valOf ops ⟨tm, df⟩) n = b at *
      obtain ⟨bt, bd⟩ := b
      simp_all
    have el : listed = lexed ops.size n := by
      apply Array.ext
      · rw [lexed_size]; exact hinv.size
      · intro i h1 h2
        have e1 := lexed_get ops.size n i (by rw [← hinv.size]; exact h1)
        by_cases hin : i < n
        · have e2 := hall i hin
          have : (lexed ops.size n).getD i false = true := by rw [e1]; simp [hin]
          simp [h1, h2] at e2 this
          rw [e2, this]
        · have e2 := getD_both (hinv.tail i (by omega) (by rw [← hinv.size]; exact h1))
          have : (lexed ops.size n).getD i false = false := by rw [e1]; simp [hin]
          simp [h1, h2] at e2 this
          rw [e2, this]
    have hw := hend (valOf ops a) w hg fun i hi => hval inv hi (hall i hi)
    rw [← ea] at hw
    have hse := lexHead_end ops.size n 0 (by simpa using hlex)
    rw [Nat.zero_add] at hse
    have hdl : (l.drop n).length = ops.size - n := by rw [hl]; simp
    have T := wpAny_of_seq (md := .any) (P := P) (ops := ops) (Q' := Q) (l.drop n) n listed a w (fun j => by rw [hl]; simp [List.getElem?_drop]) (by rw [hdl, el]; exact hse) hw
    rw [hdl] at T
    rw [Nat.zero_add]
    exact T
  | succ f ih =>
    intro listed a w hf hinv inv hg
    obtain ⟨k, hk, hkf, hkall⟩ := left_pos (by rw [hf]; exact Nat.succ_ne_zero f)
    have hkt : listed.getD k true = false := getD_in (by rw [hinv.size]; omega) hkf
    have hkr : k ∈ Region.ready .any ops listed := by
      have h0 := lexHead_at ops.size n 0 (by simpa using hlex) k (Nat.zero_le _) (by omega)
      obtain ⟨_, o, ho, hall⟩ := mem_ready.1 h0
      refine mem_ready.2 ⟨hkt, o, ho, fun e he hb => ?_⟩
      have h1 := hall e he hb
      have h2 : e.on < ops.size := by
        rcases Nat.lt_or_ge e.on (lexed ops.size k).size with h' | h'
        · rw [lexed_size] at h'; exact h'
        · simp [Array.getElem?_eq_none h'] at h1
      rw [lexed_get ops.size k e.on h2] at h1
      exact hkall e.on (by simpa using h1)
    rw [Nat.add_right_comm]
    refine ⟨fun h0 => absurd h0 (List.ne_nil_of_mem hkr), fun i hi => ?_⟩
    have hin : i < n := Nat.lt_of_not_le fun h => tail_waits hs hc hn hinv _ k rfl hk hkt i h hi
    obtain ⟨hiun, o, ho, hall⟩ := mem_ready.1 hi
    obtain ⟨hgd, hlk⟩ := lookB_spec hL hin ho
    have hd : dstOf ops i = o.dst := by unfold dstOf; rw [ho]; rfl
    have S := hstep i hin (valOf ops a) w hg fun j hj => by
      have hj' := List.mem_filter.1 (show j ∈ depsOf ops i by simpa using hj)
      have hlt := List.mem_range.1 hj'.1
      exact hval inv (by omega) (waits_listed hi hj'.2)
    unfold stepV at S
    simp only [ho] at S
    have hex : execOp a.eval o = execOp (frV ops a0 (valOf ops a) i).eval o := by
      refine execOp_congr o (fun cs b => Region.noSelect_spec hsel i o cs b ho) fun x hx => eval_same fun t ht => ?_
      subst ht
      have htl : t ∈ o.looksAt ops := List.mem_append_left _ (List.mem_filterMap.2 ⟨.tmp t, by simpa using hx, rfl⟩)
      by_cases hexi : ∃ j, j < n ∧ dstOf ops j = some t
      · obtain ⟨j, hj, hdj⟩ := hexi
        obtain ⟨hji, _⟩ := hlk t htl j hj hdj
        exact (frV_in a0 a inv.size i t ⟨j, hji, hdj⟩ (dstB_lt hD hj hdj)).symm
      · have hno : ∀ j, j < n → dstOf ops j ≠ some t := fun j hj hd => hexi ⟨j, hj, hd⟩
        rw [frV_out a0 _ i t fun j hj => hno j (by omega)]
        exact inv.old t fun j hj _ => hno j hj
    have next : ∀ v w', w.grownBy w' none → Ψ i v w' → wpAny P .any ops Q (f + (ops.size - n)) (listed.setIfInBounds i true) (a.put o.dst v) w' := by
      intro v w' hg' hv
      have hlf : left (listed.setIfInBounds i true) n = f := by have := left_set hin hiun; omega
      refine ih _ _ _ hlf (hinv.set hi hin) ?_ (grown_trans hg hg')
      have hset : ∀ j, j ≠ i → (listed.setIfInBounds i true).getD j false = true → listed.getD j false = true := fun j hj h => by rwa [getD_set_ne false (Ne.symm hj)] at h
      refine ⟨(put_size _ _ _).trans inv.size, (put_defers _ _ _).trans inv.defers, fun s hs' => ?_, fun j d hj hjl hjd => ?_, fun j hj hjl hjd => ?_⟩
      · have h1 : dstOf ops i ≠ some s := hs' i hin (by
          have : i < listed.size := by rw [hinv.size]; omega
          simp [this])
        rw [put_other _ _ (by rw [← hd]; exact h1)]
        exact inv.old s fun j hj hjl => hs' j hj (getD_set_true hjl)
      · by_cases hji : j = i
        · subst hji
          have e : o.dst = some d := by rw [← hd]; exact hjd
          rw [e]
          have hlt : d < a.tmps.size := by rw [inv.size]; exact dstB_lt hD hin hjd
          have := put_same a d v hlt
          rw [Array.getD_eq_getD_getElem?, this]
          exact hv
        · have hne : o.dst ≠ some d := by rw [← hd]; exact dstB_ne hD hj hin hji hjd
          have := put_other a v hne
          rw [Array.getD_eq_getD_getElem?, this, ← Array.getD_eq_getD_getElem?]
          exact hst _ _ _ _ hj (inv.val j d hj (hset j hji hjl) hjd) hg'
      · by_cases hji : j = i
        · subst hji
          exact absurd hjd (dstB_some hD hin)
        · exact hst _ _ _ _ hj (inv.non j hj (hset j hji hjl) hjd) hg'
    unfold wpOp
    simp only [ho]
    have hwa : Region.wanted o (yielded ops a.tmps) = true := by unfold Region.wanted; rw [hgd]
    rw [if_pos hwa]
    refine .inl ?_
    unfold Oper.wp
    rw [hex]
    generalize (execOp (frV ops a0 (valOf ops a) i).eval o).run P w = r at S
    match r, S with
    | .ok (.value v) w', S => exact next v w' S.1 S.2
    | .ok .skip w', S => exact next undef w' S.1 S.2
    | .ok (.enter fn args) w', S =>
      rw [Oper.upon_enter]
      refine Calls.mono S ?_
      rintro e w'' ⟨v, rfl, h1, h2⟩
      exact next v w'' h1 h2
/-- **A region of which each operation of the head says what is known of its own value, whatever came ahead of it.** -/
theorem region_inv {id : Nat} {Q : Exit → Act → World → Prop} {a : Act} {w : World} {l : List Oper} (n : Nat) (Ψ : Nat → Value → World → Prop)
    (hm : P.follows .mixedOrders = true) (hB : Region.lexTailB .any l.toArray n = true) (hL : lookB l.toArray n = true) (hD : dstB l.toArray n a.tmps.size = true)
    (hst : ∀ i v w w', i < n → Ψ i v w → w.grownBy w' none → Ψ i v w')
    (hstep : ∀ i, i < n → ∀ V w', w.drew.grownBy w' none → (∀ j, (depsOf l.toArray i).contains j = true → Ψ j (V j) w') → stepV P l.toArray Ψ i (frV l.toArray a V i) w')
    (hend : ∀ V w', w.drew.grownBy w' none → (∀ i, i < n → Ψ i (V i) w') → wpList P l.toArray Q (l.drop n) (frV l.toArray a V n) w') : (Code.region id l.toArray true).wp P Q a w := by
  simp only [Region.lexTailB, Bool.and_eq_true, decide_eq_true_eq] at hB
  obtain ⟨⟨⟨⟨hsel, hn⟩, hs⟩, hc⟩, hlex⟩ := hB
  have inv0 : HeadInv .any l.toArray n (Array.replicate l.toArray.size false) :=
    ⟨by simp, fun j oj _ hl => (by rw [getD_replicate_false] at hl; cases hl), fun t _ ht => getD_in (by simpa using ht) (getD_replicate_false _ _)⟩
  have hl0 : left (Array.replicate l.toArray.size false) n = n := by
    unfold left
    rw [List.filter_eq_self.2 fun i _ => by rw [getD_replicate_false]; rfl]
    simp
  have fr0 : FrInv l.toArray n a Ψ (Array.replicate l.toArray.size false) a w.drew :=
    ⟨rfl, rfl, fun _ _ => rfl, fun i d _ h => (by rw [getD_replicate_false] at h; cases h), fun i _ h => (by rw [getD_replicate_false] at h; cases h)⟩
  have T := any_of_inv (P := P) (Q := Q) (ops := l.toArray) (n := n) (a0 := a) (W := w.drew) (Ψ := Ψ) rfl hst hsel hn hs hc (by simpa [lexed] using hlex) hL hD hstep hend n _ a w.drew hl0 inv0 fr0 (World.grownBy.refl _ _)
  rw [show n + (l.toArray.size - n) = l.toArray.size by omega] at T
  exact wp_region_any hm T
end
end Go.Proofs.Ytlkldehapkgdaaa

/- What an operation of a region reads: where its operands come from. -/
namespace Go.Proofs.Ytlkldehapkgdaaa
open Go.RowKit
set_option linter.unusedVariables false

/-- the last operation ahead of i that writes slot t -/
def srcOf (ops : Array Oper) (t : Nat) : Nat → Option Nat
  | 0 => none
  | i + 1 => if dstOf ops i = some t then some i else srcOf ops t i
theorem frV_at {ops : Array Oper} {a : Act} {V : Nat → Value} {t j : Nat} (ht : t < a.tmps.size) : ∀ {i : Nat}, srcOf ops t i = some j → (frV ops a V i).tmps[t]? = some (V j)
  | 0, h => by cases h
  | i + 1, h => by
    unfold srcOf at h
    show ((frV ops a V i).put (dstOf ops i) (V i)).tmps[t]? = some (V j)
    by_cases hd : dstOf ops i = some t
    · rw [if_pos hd] at h
      obtain rfl : i = j := Option.some.inj h
      rw [hd, put_same _ _ _ (by rw [frV_size]; exact ht)]
    · rw [if_neg hd] at h
      rw [put_other _ _ hd]
      exact frV_at ht h
theorem frV_at0 {ops : Array Oper} {a : Act} {V : Nat → Value} {t : Nat} : ∀ {i : Nat}, srcOf ops t i = none → (frV ops a V i).tmps[t]? = a.tmps[t]?
  | 0, _ => rfl
  | i + 1, h => by
    unfold srcOf at h
    show ((frV ops a V i).put (dstOf ops i) (V i)).tmps[t]? = _
    by_cases hd : dstOf ops i = some t
    · rw [if_pos hd] at h; cases h
    · rw [if_neg hd] at h
      rw [put_other _ _ hd]
      exact frV_at0 h
section
variable {P : Program}
/-- what an operation's run must show -/
def outO (P : Program) (Ψ : Nat → Value → World → Prop) (i : Nat) (w : World) : Result Next → Prop
  | .ok (.value v) w' => w.grownBy w' none ∧ Ψ i v w'
  | .ok .skip w' => w.grownBy w' none ∧ Ψ i undef w'
  | .ok (.enter f args) w' => Calls P f args w' (fun e w'' => ∃ v, e = .returned v ∧ w.grownBy w'' none ∧ Ψ i v w'')
  | _ => False
theorem outO_val {Ψ : Nat → Value → World → Prop} {i : Nat} {w w' : World} {v : Value} {r : Result Next} (hr : r = .ok (.value v) w') (hg : w.grownBy w' none) (hv : Ψ i v w') : outO P Ψ i w r := by
  rw [hr]; exact ⟨hg, hv⟩
/-- an operation, wherever it comes up: what it reads is what the ones ahead of it have left, or what stood there -/
def stepO (P : Program) (ops : Array Oper) (a : Act) (w : World) (Ψ : Nat → Value → World → Prop) (i : Nat) (o : Oper) : Prop :=
  ∀ (V : Nat → Value) (w' : World) (A : Act), w.drew.grownBy w' none → (∀ j, (depsOf ops i).contains j = true → Ψ j (V j) w') → (∀ t j, srcOf ops t i = some j → decide (t < a.tmps.size) = true → A.tmps[t]? = some (V j)) →
    (∀ t v, srcOf ops t i = none → a.tmps[t]? = some v → A.tmps[t]? = some v) → outO P Ψ i w' ((execOp A.eval o).run P w')
def stepsO (P : Program) (ops : Array Oper) (a : Act) (w : World) (Ψ : Nat → Value → World → Prop) : Nat → List Oper → Prop
  | _, [] => True
  | i, o :: rest => stepO P ops a w Ψ i o ∧ stepsO P ops a w Ψ (i + 1) rest
theorem stepsO_get {ops : Array Oper} {a : Act} {w : World} {Ψ : Nat → Value → World → Prop} : ∀ {l : List Oper} {k i : Nat} {o : Oper}, stepsO P ops a w Ψ k l → l[i]? = some o → stepO P ops a w Ψ (k + i) o
  | [], _, _, _, _, h => by simp at h
  | x :: l, k, 0, o, hs, h => by
    obtain rfl : x = o := by simpa using h
    exact hs.1
  | x :: l, k, i + 1, o, hs, h => by
    have := stepsO_get (i := i) hs.2 (by simpa using h)
    rwa [show k + 1 + i = k + (i + 1) by omega] at this
/-- region_inv, operation by operation -/
theorem region_src {id : Nat} {Q : Exit → Act → World → Prop} {a : Act} {w : World} {l : List Oper} (n : Nat) (Ψ : Nat → Value → World → Prop)
    (hm : P.follows .mixedOrders = true) (hB : Region.lexTailB .any l.toArray n = true) (hL : lookB l.toArray n = true) (hD : dstB l.toArray n a.tmps.size = true)
    (hst : ∀ i v w w', i < n → Ψ i v w → w.grownBy w' none → Ψ i v w')
    (hstep : stepsO P l.toArray a w Ψ 0 (l.take n))
    (hend : ∀ V w', w.drew.grownBy w' none → (∀ i, i < n → Ψ i (V i) w') → wpList P l.toArray Q (l.drop n) (frV l.toArray a V n) w') : (Code.region id l.toArray true).wp P Q a w := by
  have hn : n < l.length := by
    simp only [Region.lexTailB, Bool.and_eq_true, decide_eq_true_eq] at hB
    simpa using hB.1.1.1.2
  refine region_inv n Ψ hm hB hL hD hst (fun i hi V w' g hV => ?_) hend
  have ho : (l.take n)[i]? = some l[i] := by rw [List.getElem?_take, if_pos hi, List.getElem?_eq_getElem (by omega)]
  have h1 := stepsO_get hstep ho
  rw [Nat.zero_add] at h1
  have h2 := h1 V w' (frV l.toArray a V i) g hV (fun t j hs ht => frV_at (of_decide_eq_true ht) hs) (fun t v hs hv => (frV_at0 hs).trans hv)
  unfold stepV
  have ho' : l.toArray[i]? = some l[i] := by rw [List.getElem?_toArray, List.getElem?_eq_getElem (by omega)]
  rw [ho']
  exact h2
end
end Go.Proofs.Ytlkldehapkgdaaa

/- gantryref7.lots. -/
namespace Go.Proofs.Ytlkldehapkgdaaa
open Go.RowKit
set_option linter.unusedVariables false

namespace Ty
/-- the first seventeen, field by field, word by word -/
def pre (x : TyV) (L : Nat → Li) (V : Nat → List (Int × Int)) (q : Nat) : List (Int × Int) := (cat x L V q).take 17
def prj (x : TyV) (L : Nat → Li) (V : Nat → List (Int × Int)) (q j : Nat) : List (Int × Int) := (cat x L V q ++ sh (bg x L q) (((V (x.F q).toNat).take 17).take j)).take 17
theorem prj_zero (x : TyV) (L : Nat → Li) (V : Nat → List (Int × Int)) (q : Nat) : prj x L V q 0 = pre x L V q := by simp [prj, pre, sh]
theorem prj_len (x : TyV) (L : Nat → Li) (V : Nat → List (Int × Int)) (q j : Nat) : (prj x L V q j).length ≤ 17 := by simp [prj]; omega
theorem prj_succ {x : TyV} {L : Nat → Li} {V : Nat → List (Int × Int)} {q j : Nat} (hj : j < ((V (x.F q).toNat).take 17).length) (hl : (prj x L V q j).length ≤ 16) :
    prj x L V q (j + 1) = prj x L V q j ++ [((((V (x.F q).toNat).take 17).getD j (0, 0)).1, bg x L q + (((V (x.F q).toNat).take 17).getD j (0, 0)).2)] := by
  unfold prj at *
  generalize (V (x.F q).toNat).take 17 = Y at *
  have e1 : (cat x L V q ++ sh (bg x L q) (Y.take j)).take 17 = cat x L V q ++ sh (bg x L q) (Y.take j) := by
    rw [List.length_take] at hl
    exact List.take_of_length_le (by omega)
  rw [e1] at hl ⊢
  have e2 : Y.take (j + 1) = Y.take j ++ [Y.getD j (0, 0)] := by
    rw [List.take_add_one, List.getElem?_eq_getElem hj, List.getD_eq_getElem?_getD, List.getElem?_eq_getElem hj]
    rfl
  rw [e2, sh_app, ← List.append_assoc]
  have e3 : sh (bg x L q) [Y.getD j (0, 0)] = [((Y.getD j (0, 0)).1, bg x L q + (Y.getD j (0, 0)).2)] := rfl
  rw [e3]
  exact List.take_of_length_le (by rw [List.length_append, List.length_singleton]; omega)
theorem prj_end {x : TyV} {L : Nat → Li} {V : Nat → List (Int × Int)} {q j : Nat} (h : ((V (x.F q).toNat).take 17).length ≤ j ∨ 16 < (prj x L V q j).length) : prj x L V q j = pre x L V (q + 1) := by
  unfold prj pre at *
  rw [cat]
  rcases h with h | h
  · rw [List.take_of_length_le h, List.take_append, List.take_append]
    congr 1
    unfold sh
    rw [← List.map_take, ← List.map_take, List.take_take]
    congr 2
    omega
  · have hp : cat x L V q ++ sh (bg x L q) (V (x.F q).toNat) = (cat x L V q ++ sh (bg x L q) (((V (x.F q).toNat).take 17).take j)) ++ sh (bg x L q) ((V (x.F q).toNat).drop (min j 17)) := by
      rw [List.append_assoc, ← sh_app, List.take_take, List.take_append_drop]
    rw [List.length_take] at h
    rw [hp]
    exact (List.take_append_of_le_length (by omega)).symm
end Ty
theorem Ty.Row.mem {s d : Int} {l : List (Int × Int)} (h : Ty.Row s d l) : ∀ p ∈ l, s ≤ p.2 ∧ p.2 ≤ d := by
  induction h with
  | nil h => intro p hp; cases hp
  | @cons s d k o l h1 h2 h3 h4 h ih =>
    have hp1 := (Ty.by_al h1 h2).pos
    have hle := h.le
    intro p hp
    rcases List.mem_cons.1 hp with rfl | hp
    · exact ⟨h3, by show o ≤ d; omega⟩
    · have := ih p hp; omega
theorem OwnZ.notLot {w : World} {base Y : Nat} {v : Value} {l : List Int} {cs : Array Value} (h : OwnZ w base v l) (hY : w.heap[Y]? = some (.cells cs 73 (0, 0))) : v.ownBlock ≠ some Y := by
  intro e
  rcases h.2 with ⟨rfl, _⟩ | ⟨g, c, cur, rfl, _, hg, _⟩
  · cases e
  · simp [Value.ownBlock] at e
    subst e
    rw [hg] at hY
    simp at hY
theorem k1_app (l m : List (Int × Int)) : Ty.k1 (l ++ m) = Ty.k1 l ++ Ty.k1 m := List.map_append
theorem k2_app (l m : List (Int × Int)) : Ty.k2 (l ++ m) = Ty.k2 l ++ Ty.k2 m := List.map_append
theorem atF_k1 {l : List (Int × Int)} {j : Nat} (h : j < l.length) : atF (Ty.k1 l) j = (l.getD j (0, 0)).1 := by simp [atF, Ty.k1, List.getD_eq_getElem?_getD, List.getElem?_eq_getElem h]
theorem atF_k2 {l : List (Int × Int)} {j : Nat} (h : j < l.length) : atF (Ty.k2 l) j = (l.getD j (0, 0)).2 := by simp [atF, Ty.k2, List.getD_eq_getElem?_getD, List.getElem?_eq_getElem h]
/-- the first operations tell vals; then a new row of one number is made -/
def psiL (vals : List Value) (X : Int) (base : Nat) (i : Nat) (v : Value) (w : World) : Prop :=
  if i < vals.length then v = vals.getD i undef else ∃ T, v = .slice (some ⟨T, 0, none⟩) 1 1 ∧ OwnZ w base (.slice (some ⟨T, 0, none⟩) 1 1) [X]
theorem psiL_f {vals : List Value} {X : Int} {base i : Nat} {v : Value} {w : World} (h : psiL vals X base i v w) (hi : i < vals.length) : v = vals.getD i undef := by unfold psiL at h; rwa [if_pos hi] at h
theorem psiL_mk {vals : List Value} {X : Int} {base i : Nat} {v : Value} {w : World} (hi : i < vals.length) (h : v = vals.getD i undef) : psiL vals X base i v w := by unfold psiL; rwa [if_pos hi]
theorem psiL_e {vals : List Value} {X : Int} {base i : Nat} {v : Value} {w : World} (h : psiL vals X base i v w) (hi : vals.length ≤ i) : ∃ T, v = .slice (some ⟨T, 0, none⟩) 1 1 ∧ OwnZ w base (.slice (some ⟨T, 0, none⟩) 1 1) [X] := by unfold psiL at h; rwa [if_neg (by omega)] at h
theorem psiL_new {vals : List Value} {X : Int} {base i : Nat} {w : World} (hi : vals.length ≤ i) (hb : base ≤ w.heap.size) : psiL vals X base i (.slice (some ⟨w.heap.size, 0, none⟩) 1 1) (w.alloc (Obj.cells #[.int .i64 X] 3)) := by
  unfold psiL
  rw [if_neg (by omega)]
  exact ⟨_, rfl, World.ownsRow_lit (base := base) (e := 3) (size := 1) w #[.int .i64 X] 1 hb (by decide) rfl⟩
theorem psiL_stable {vals : List Value} {X : Int} {base i : Nat} {v : Value} {w w' : World} (h : psiL vals X base i v w) (g : w.grownBy w' none) : psiL vals X base i v w' := by
  unfold psiL at h ⊢
  split
  · rename_i h1; rwa [if_pos h1] at h
  · rename_i h1
    rw [if_neg h1] at h
    obtain ⟨T, e, o⟩ := h
    exact ⟨T, e, o.grow g⟩
theorem app_in {v v' : Value} {w w0 : World} {q : Nat} (h : v'.ownBlock = v.ownBlock ∨ v'.ownBlock = some w0.heap.size) (hs : w.heap.size ≤ w0.heap.size) (hv : v'.ownBlock = some q) : v.ownBlock = some q ∨ w.heap.size ≤ q := by
  rcases h with e | e
  · exact .inl (e ▸ hv)
  · rw [e] at hv; injection hv with hv; exact .inr (by omega)
set_option maxRecDepth 100000 in
set_option maxHeartbeats 8000000 in
theorem rlots_any {N : Nat} {w : World} {T : Nat → Ty.TyV} {n m : Nat} {a : Option Addr} {c : Nat} (h : TysIn N w a m c T) (hN : N ≤ w.heap.size) (hm : m ≤ 64) (hF : Ty.Fine T n m)
    (HOff : ∀ i, i < m → ∀ f, f < (T i).nf → ∀ W, w.grownBy W none → Calls Try.prog 28 #[.slice a m c, .int .i64 i, .int .i64 f] W fun e w' => e = .returned (.int .i64 (Ty.bg (T i) (Ty.lie T) f)) ∧ W.grownBy w' none) :
    Calls Try.prog 40 #[.slice a m c] w fun e w' => ∃ v l, e = .returned v ∧ Lts w w' T m v l := by
  have hle := h.le
  have hmx := h.max
  unfold maxLen at hmx
  have hm' : (m : Int) ≤ 64 := by omega
  have HT : Hid (TysIn N w a m c T) := h
  have HF : Hid (Ty.Fine T n m) := hF
  have HO : Hid (∀ i, i < m → ∀ f, f < (T i).nf → ∀ W, w.grownBy W none → Calls Try.prog 28 #[.slice a m c, .int .i64 i, .int .i64 f] W fun e w' => e = .returned (.int .i64 (Ty.bg (T i) (Ty.lie T) f)) ∧ W.grownBy w' none) := HOff
  have HN : Hid (N ≤ w.heap.size) := hN
  clear h hF HOff
  go_enter Try.func40, Try.ntmps40
  go_wp2_with fail
  go_loopw [3, 4] (fun v ix wr => ∃ (k : Nat) (l : List Lt), ix = .int .i64 k ∧ k ≤ m ∧ Lts w wr T k v l) (fun _ ix _ => m - (intOf ix).toNat)
  case atStart => exact ⟨0, [], rfl, Nat.zero_le _, World.ownsRow_nil _ _ _ _, rfl, (fun i hi => by simp at hi), World.grownBy.refl _ _⟩
  case round =>
    obtain ⟨k, l, rfl, hk, hl⟩ := hrel
    obtain ⟨wb, hwb⟩ : ∃ wb, wb = wr := ⟨_, rfl⟩
    rw [← hwb] at hl ⊢
    clear hwb
    have HL : Hid (Lts w wb T k u3 l) := hl
    obtain ⟨la, lc, hu3, hlc, hlm, hrow⟩ := hl.slice
    have hlen := hl.len
    have HRow : Hid (∀ i (hi : i < k), ∃ b, la = some ⟨b, 0, none⟩ ∧ ∀ q, q < 3 → wb.cell? ⟨b, i * 3 + q, none⟩ = (cells3 (l[i]'(by rw [hlen]; exact hi)))[q]?) := hrow
    have hsz := hl.gr.size
    subst hu3
    clear hrow
    by_cases hkm : k < m
    · have hkm' : (k : Int) < m := by omega
      obtain ⟨b, off, fa, fc, rfl, hb, hty⟩ := (HT.out.grow hl.gr).at hkm
      have hok := (HF.out k hkm).1
      have HTy : Hid (TyC N wb b (off + k * 4) (T k) fa fc) := hty
      have HNew : Hid (Lx wb (wb.alloc (.cells #[.slice none 0 0, .slice none 0 0, .bool false] 73)) wb.heap.size (.slice none 0 0) (.slice none 0 0) false [] []) := Lx.new wb
      have hg0 : wb.grownBy (wb.alloc (.cells #[.slice none 0 0, .slice none 0 0, .bool false] 73)) none := World.grownBy_alloc _ _ _
      have t0 := (hty.ch (l := []) (Ch.of hg0) (by simp) (by simp)).c0
      rcases Ty.ok_cases hok with ⟨hk', _⟩ | ⟨hk', i3, i4, h16, hf⟩ | ⟨hk', i3, i4⟩ | ⟨i1, i2, i3, i4⟩
      · have ew : Ty.w17 T k = [] := by unfold Ty.w17; rw [Ty.wk_eq hok]; unfold Ty.wkOf; rw [if_pos hk']; rfl
        have ea : (Ty.lie T k).arr = true := by rw [Ty.lie_eq hok]; unfold Ty.lieOf; rw [if_pos hk']
        rw [hk'] at t0
        have HPu : Hid (∀ w' v', OwnLt w' w.heap.size v' (l ++ [⟨none, 0, 0, none, 0, true⟩]) → ((wb.alloc (.cells #[.slice none 0 0, .slice none 0 0, .bool true] 73))).grownBy w' (Value.slice la k lc).ownBlock → Lts w w' T (k + 1) v' (l ++ [⟨none, 0, 0, none, 0, true⟩])) := fun w' v' ho hg => by
          have hX : Lx wb (wb.alloc (.cells #[.slice none 0 0, .slice none 0 0, .bool true] 73)) wb.heap.size (.slice none 0 0) (.slice none 0 0) true [] [] := ⟨heap_alloc_new wb _, ownZ_nil _ _, ownZ_nil _ _, (fun q h => by cases h), World.grownBy_alloc _ _ _, Nat.le_refl _⟩
          exact HL.out.push hX (by rw [ew]; rfl) (by rw [ew]; rfl) ea.symm rfl rfl rfl ho hg
        clear hl hty hok hg0 ew ea HNew
        go_wp2_with (at_builtin; refine wp_appL rfl _ _ rfl w.heap.size (.slice la k lc) l ⟨none, 0, 0, none, 0, true⟩ rfl (HL.out.own.grow (World.grownBy_alloc _ _ _)) rfl (by simp) (by omega) (by simp; omega) ?_; intro v6 w6 ho6 hg6)
        go_roundw
        case rel => exact ⟨k + 1, _, by go_num, by omega, HPu.out _ _ ho6 hg6⟩
        case measure => simp [intOf]; omega
      · have HEw : Hid (Ty.k1 (Ty.pre (T k) (Ty.lie T) (Ty.wk T) (T k).nf) = Ty.k1 (Ty.w17 T k) ∧ Ty.k2 (Ty.pre (T k) (Ty.lie T) (Ty.wk T) (T k).nf) = Ty.k2 (Ty.w17 T k) ∧ Ty.ar (T k) (Ty.lie T) (T k).nf = (Ty.lie T k).arr) := by
          have e1 : Ty.w17 T k = Ty.pre (T k) (Ty.lie T) (Ty.wk T) (T k).nf := by unfold Ty.w17 Ty.pre; rw [Ty.wk_eq hok]; unfold Ty.wkOf; rw [if_neg (by omega), if_pos hk']
          have e2 : (Ty.lie T k).arr = Ty.ar (T k) (Ty.lie T) (T k).nf := by rw [Ty.lie_eq hok]; unfold Ty.lieOf; rw [if_neg (by omega), if_pos hk']
          rw [e1, e2]
          exact ⟨rfl, rfl, rfl⟩
        rw [hk'] at t0
        have HOk : Hid (∀ f, f < (T k).nf → ∀ W, w.grownBy W none → Calls Try.prog 28 #[.slice (some ⟨b, off, none⟩) m c, .int .i64 k, .int .i64 f] W fun e w' => e = .returned (.int .i64 (Ty.bg (T k) (Ty.lie T) f)) ∧ W.grownBy w' none) := HO.out k hkm
        have HFi : Hid (∀ q, q < (T k).nf → 0 ≤ (T k).F q ∧ (T k).F q < k) := hf
        have HBg : Hid (∀ q, q < (T k).nf → 0 ≤ Ty.bg (T k) (Ty.lie T) q ∧ Ty.bg (T k) (Ty.lie T) q ≤ 65536) := fun q hq => by
          have hFk := HF.out.mono (Nat.le_of_lt hkm)
          have h1 := Ty.bg_in hFk hok hk' hq
          have h2 := HF.out.good k hkm
          have h3 := (hFk.good ((T k).F q).toNat (by have := hf q hq; omega)).1
          have h4 := h3.w0
          have h5 := h3.ws
          have h6 : (Ty.fl (T k) (Ty.lie T) q).size = (Ty.lie T ((T k).F q).toNat).size := rfl
          omega
        have HEn : Hid (∀ j (hj : j < k), LtOk wb (l[j]'(by rw [hlen]; exact hj)) (Ty.w17 T j) (Ty.lie T j).arr) := fun j hj => hl.ent j (by rw [hlen]; exact hj)
        have HYo : Hid (∀ j, j < k → ∀ p ∈ Ty.w17 T j, 0 ≤ p.2 ∧ p.2 ≤ 65536) := fun j hj p hp => by
          have h1 := (Ty.wk_row (HF.out.mono (show j + 1 ≤ m by omega))).1.mem p (List.mem_of_mem_take hp)
          have h2 := (HF.out.good j (by omega)).2
          omega
        have hfl := hty.f.le
        have hfm := hty.f.max
        unfold maxLen at hfm
        have HG0 : Hid (wb.grownBy (wb.alloc (.cells #[.slice none 0 0, .slice none 0 0, .bool false] 73)) none) := hg0
        obtain ⟨B, hB⟩ : ∃ B, B = wb.heap.size := ⟨_, rfl⟩
        have HB : Hid (B = wb.heap.size) := hB
        clear hl hty hok hf i3 i4 hk' hg0 hB
        generalize T k = x at *
        go_wp2_with fail
        rw [← HB.out] at HNew ⊢
        go_loopw [6] (fun ix wr => ∃ (q : Nat) (vK vO : Value), ix = .int .i64 q ∧ q ≤ x.nf ∧ Lx wb wr B vK vO (Ty.ar x (Ty.lie T) q) (Ty.k1 (Ty.pre x (Ty.lie T) (Ty.wk T) q)) (Ty.k2 (Ty.pre x (Ty.lie T) (Ty.wk T) q))) (fun ix _ => x.nf - (intOf ix).toNat)
        case atStart => exact ⟨0, _, _, rfl, Nat.zero_le _, HNew.out⟩
        case round =>
          obtain ⟨q, vK, vO, rfl, hq, hX⟩ := hrel
          obtain ⟨wm, hwm⟩ : ∃ wm, wm = wr := ⟨_, rfl⟩
          rw [← hwm] at hX ⊢
          clear hwm
          have HX : Hid (Lx wb wm B vK vO (Ty.ar x (Ty.lie T) q) (Ty.k1 (Ty.pre x (Ty.lie T) (Ty.wk T) q)) (Ty.k2 (Ty.pre x (Ty.lie T) (Ty.wk T) q))) := hX
          have c3 := (HTy.out.ch (l := []) (Ch.of hX.gr) (by simp) (by simp)).c3
          by_cases hqn : q < x.nf
          · have hqn' : (q : Int) < x.nf := by omega
            obtain ⟨fb, fo, rfl, hcf⟩ := (HTy.out.ch (l := []) (Ch.of hX.gr) (by simp) (by simp)).f.val hqn
            obtain ⟨j0, j1⟩ := HFi.out q hqn
            obtain ⟨j, hj⟩ : ∃ j : Nat, x.F q = j := ⟨(x.F q).toNat, by omega⟩
            have hjk : j < k := by omega
            have hjk' : (j : Int) < k := by omega
            obtain ⟨rb, hla, hcell⟩ := HRow.out j hjk
            subst hla
            have HE := HEn.out j hjk
            obtain ⟨e, he⟩ : ∃ e, e = l[j]'(by rw [hlen]; exact hjk) := ⟨_, rfl⟩
            rw [← he] at HE hcell
            have HEj : Hid (LtOk wb e (Ty.w17 T j) (Ty.lie T j).arr) := HE
            have r0 : wm.cell? ⟨rb, j * 3, none⟩ = some (.slice e.ka e.n e.kc) := (Ch.of (l := []) hX.gr).cell (hcell 0 (by decide)) (by simp)
            have r1 := (Ch.of (l := []) hX.gr).cell (hcell 1 (by decide)) (by simp)
            have r2 := (Ch.of (l := []) hX.gr).cell (hcell 2 (by decide)) (by simp)
            rw [hj] at hcf
            have HEq : Hid (x.F q = j) := hj
            have hszm := hX.gr.size
            clear hX he HE hcell hj
            have HOq : Hid (∀ W, w.grownBy W none → Calls Try.prog 28 #[.slice (some ⟨b, off, none⟩) m c, .int .i64 k, .int .i64 q] W fun e w' => e = .returned (.int .i64 (Ty.bg x (Ty.lie T) q)) ∧ W.grownBy w' none) := HOk.out q hqn
            have hbg := HBg.out q hqn
            obtain ⟨ea, hea⟩ : ∃ ea, ea = e.arr := ⟨_, rfl⟩
            obtain ⟨aq, haq⟩ : ∃ aq, aq = Ty.ar x (Ty.lie T) q := ⟨_, rfl⟩
            obtain ⟨nb, hnb0⟩ : ∃ nb, nb = Ty.ar x (Ty.lie T) (q + 1) := ⟨_, rfl⟩
            have HNB : Hid (nb = Ty.ar x (Ty.lie T) (q + 1)) := hnb0
            have HA1 : Hid (nb = (aq || ea)) := by
              show _ = _
              rw [hnb0, Ty.ar, ← haq, hea, HEj.out.arr]
              unfold Ty.fl
              rw [HEq.out]
              rfl
            rw [← haq] at HX
            have HYB : Hid ((wm.alloc (.cells #[.slice e.ka e.n e.kc, .slice e.oa e.n e.oc, .bool ea] 73)).heap[wm.heap.size]? = some (.cells #[.slice e.ka e.n e.kc, .slice e.oa e.n e.oc, .bool ea] 73 (0, 0))) := heap_alloc_new wm _
            have hyg : wm.grownBy (wm.alloc (.cells #[.slice e.ka e.n e.kc, .slice e.oa e.n e.oc, .bool ea] 73)) none := World.grownBy_alloc _ _ _
            have HYg : Hid (wm.grownBy (wm.alloc (.cells #[.slice e.ka e.n e.kc, .slice e.oa e.n e.oc, .bool ea] 73)) none) := hyg
            have HYX : Hid (w.grownBy (wm.alloc (.cells #[.slice e.ka e.n e.kc, .slice e.oa e.n e.oc, .bool ea] 73)) none) := grown_trans HL.out.gr (grown_trans HX.out.gr hyg)
            rw [← hea] at r2
            clear hyg haq hea hnb0
            obtain ⟨G, hG⟩ : ∃ G, G = Ty.bg x (Ty.lie T) q := ⟨_, rfl⟩
            rw [← hG] at HOq hbg
            have HGe : Hid (G = Ty.bg x (Ty.lie T) q) := hG
            clear hG
            cases aq
            all_goals (
              go_wp2_with (go_at_call 28; refine (HOq.out _ HYX.out).mono ?_; rintro e3 w3 ⟨rfl, hg3⟩; have hg3' := grown_trans HYg.out hg3; have HG3 : Hid (wm.grownBy w3 none) := hg3'; have HX3 := HX.out.grow hg3'; have HYB3 : w3.heap[wm.heap.size]? = some (.cells #[.slice e.ka e.n e.kc, .slice e.oa e.n e.oc, .bool ea] 73 (0, 0)) := (hg3.block wm.heap.size (by simp) (by simp)).trans HYB.out; have s2 := HX3.c2; have sz2 := HX3.fz 2; have y2 : w3.cell? ⟨wm.heap.size, 2, none⟩ = some (.bool ea) := (by simp [World.cell?, HYB3]); clear hg3)
              obtain ⟨Y, hY⟩ : ∃ Y, Y = wm.heap.size := ⟨_, rfl⟩
              have hBY : ¬ B = Y := by have := HX.out.lt; omega
              rw [← hY] at HYB3 ⊢
              clear hY
              have HX4 : Hid (Lx wb (w3.setCell ⟨B, 2, none⟩ (.bool nb)) B vK vO nb (Ty.k1 (Ty.prj x (Ty.lie T) (Ty.wk T) q 0)) (Ty.k2 (Ty.prj x (Ty.lie T) (Ty.wk T) q 0))) := by rw [Ty.prj_zero]; exact HX3.putA nb
              have HYB4 : Hid ((w3.setCell ⟨B, 2, none⟩ (.bool nb)).heap[Y]? = some (.cells #[.slice e.ka e.n e.kc, .slice e.oa e.n e.oc, .bool ea] 73 (0, 0))) := ((Ch.one (l := [B]) (grown_set w3 B 2 (.bool nb)) (by simp)).block Y (Array.getElem?_eq_some_iff.1 HYB3).1 (by simp; omega)).trans HYB3
              have hnb := HA1.out
              simp only [Bool.false_or, Bool.true_or] at hnb
              clear HX3 HYB3 s2 sz2 y2 r0 r1 r2 hcf c3 hg3'
              obtain ⟨eb, heb⟩ : ∃ eb, eb = ea := ⟨_, rfl⟩
              rw [← heb] at HYB4
              clear heb HA1
              subst hnb
              go_loopw [9] (fun ix wr => ∃ (j9 : Nat) (vK1 vO1 : Value), ix = .int .i64 j9 ∧ j9 ≤ e.n ∧ Lx wb wr B vK1 vO1 (Ty.ar x (Ty.lie T) (q + 1)) (Ty.k1 (Ty.prj x (Ty.lie T) (Ty.wk T) q j9)) (Ty.k2 (Ty.prj x (Ty.lie T) (Ty.wk T) q j9)) ∧ wr.heap[Y]? = some (.cells #[.slice e.ka e.n e.kc, .slice e.oa e.n e.oc, .bool eb] 73 (0, 0))) (fun ix _ => e.n - (intOf ix).toNat)
              case atStart => exact ⟨0, vK, vO, rfl, Nat.zero_le _, by rw [← HNB.out]; exact HX4.out, HYB4.out⟩
              case round =>
                obtain ⟨j9, vK1, vO1, rfl, hj9, hX9, hY9⟩ := hrel
                have hpl := Ty.prj_len x (Ty.lie T) (Ty.wk T) q j9
                obtain ⟨P, hP⟩ : ∃ P, P = (Ty.prj x (Ty.lie T) (Ty.wk T) q j9).length := ⟨_, rfl⟩
                have lk1 : (Ty.k1 (Ty.prj x (Ty.lie T) (Ty.wk T) q j9)).length = P := by rw [hP, Ty.k1, List.length_map]
                have lk2 : (Ty.k2 (Ty.prj x (Ty.lie T) (Ty.wk T) q j9)).length = P := by rw [hP, Ty.k2, List.length_map]
                obtain ⟨ak, ck, hvk, _, hckm, _⟩ := hX9.oK.slice
                obtain ⟨ao, co, hvo, _, hcom, _⟩ := hX9.oO.slice
                rw [lk1] at hvk
                rw [lk2] at hvo
                subst hvk hvo
                have HX9 : Hid (Lx wb wr B (.slice ak P ck) (.slice ao P co) (Ty.ar x (Ty.lie T) (q + 1)) (Ty.k1 (Ty.prj x (Ty.lie T) (Ty.wk T) q j9)) (Ty.k2 (Ty.prj x (Ty.lie T) (Ty.wk T) q j9))) := hX9
                have HY9 : Hid (wr.heap[Y]? = some (.cells #[.slice e.ka e.n e.kc, .slice e.oa e.n e.oc, .bool eb] 73 (0, 0))) := hY9
                have y0 : wr.cell? ⟨Y, 0, none⟩ = some (.slice e.ka e.n e.kc) := by simp [World.cell?, hY9]
                have b0 := hX9.c0
                have hen : e.n = (Ty.w17 T j).length := HEj.out.n
                have hw17 : Ty.w17 T j = (Ty.wk T (x.F q).toNat).take 17 := by unfold Ty.w17; rw [HEq.out]; rfl
                rw [← hP] at hpl
                have HP : Hid (P = (Ty.prj x (Ty.lie T) (Ty.wk T) q j9).length) := hP
                have HE17 : Hid (e.n = (Ty.w17 T j).length ∧ Ty.w17 T j = (Ty.wk T (x.F q).toNat).take 17) := ⟨hen, hw17⟩
                have hnm := (HEj.out.grow hX9.gr).k.max
                have hnl := (HEj.out.grow hX9.gr).k.le
                unfold maxLen at hnm hckm hcom
                clear hX9 hY9 hP hen hw17
                by_cases hcont : j9 < e.n ∧ P ≤ 16
                · obtain ⟨hjn, hP16⟩ := hcont
                  have hjn' : (j9 : Int) < e.n := by omega
                  have hP16' : (P : Int) ≤ 16 := by omega
                  have hjl : j9 < (Ty.w17 T j).length := by rw [← HE17.out.1]; exact hjn
                  have hsucc := Ty.prj_succ (x := x) (L := Ty.lie T) (V := Ty.wk T) (q := q) (j := j9) (by rw [← HE17.out.2]; exact hjl) (by rw [← HP.out]; exact hP16)
                  rw [← HE17.out.2, ← HGe.out] at hsucc
                  have hpm : (Ty.w17 T j).getD j9 (0, 0) ∈ Ty.w17 T j := by rw [List.getD_eq_getElem?_getD, List.getElem?_eq_getElem hjl]; exact List.getElem_mem hjl
                  have hpb := HYo.out j hjk _ hpm
                  obtain ⟨kb, ko, hka, hkc⟩ := (HEj.out.grow HX9.out.gr).k.val hjn
                  obtain ⟨ob, oo, hoa, hoc⟩ := (HEj.out.grow HX9.out.gr).o.val hjn
                  rw [atF_k1 hjl] at hkc
                  rw [atF_k2 hjl] at hoc
                  have hob := (HEj.out.bo ob oo hoa).lt
                  generalize (Ty.w17 T j).getD j9 (0, 0) = pp at *
                  obtain ⟨p1, p2⟩ := pp
                  simp only at hkc hoc hpb hsucc
                  have HS1 : Hid (Ty.k1 (Ty.prj x (Ty.lie T) (Ty.wk T) q (j9 + 1)) = Ty.k1 (Ty.prj x (Ty.lie T) (Ty.wk T) q j9) ++ [p1] ∧ Ty.k2 (Ty.prj x (Ty.lie T) (Ty.wk T) q (j9 + 1)) = Ty.k2 (Ty.prj x (Ty.lie T) (Ty.wk T) q j9) ++ [G + p2]) := by rw [hsucc, k1_app, k2_app]; exact ⟨rfl, rfl⟩
                  have HOc : Hid (wr.cell? ⟨ob, oo + j9, none⟩ = some (.int .i64 p2)) := hoc
                  have hBB := HB.out
                  have HoK : Hid (OwnZ wr (B + 1) (.slice ak P ck) (Ty.k1 (Ty.prj x (Ty.lie T) (Ty.wk T) q j9))) := HX9.out.oK
                  have hl1 : (Ty.k1 (Ty.prj x (Ty.lie T) (Ty.wk T) q j9)).length ≤ 2000000 := by omega
                  have hl2 : (Ty.k2 (Ty.prj x (Ty.lie T) (Ty.wk T) q j9)).length ≤ 2000000 := by omega
                  have hlt9 := HX9.out.lt
                  have HYn : Hid (wr.heap[Y]? = some (.cells #[.slice e.ka e.n e.kc, .slice e.oa e.n e.oc, .bool eb] 73 (0, 0))) := HY9.out
                  rw [hka] at y0
                  have HOa : Hid (e.oa = some ⟨ob, oo, none⟩) := hoa
                  clear hka hoa
                  have y0' : wr.drew.cell? ⟨Y, 0, none⟩ = some (.slice (some ⟨kb, ko, none⟩) e.n e.kc) := y0
                  have b0' : wr.drew.cell? ⟨B, 0, none⟩ = some (.slice ak P ck) := b0
                  have k0' : wr.drew.cell? ⟨kb, ko + j9, none⟩ = some (.int .i64 p1) := hkc
                  have HBn : Hid (B = wb.heap.size) := hBB
                  clear hsucc hpm hjl hoc hBB
                  go_wp2_with fail
                  refine region_src 8 (psiL [.pointer (some ⟨B, 0, none⟩), .slice ak P ck, .pointer (some ⟨Y, 0, none⟩), .slice (some ⟨kb, ko, none⟩) e.n e.kc, .int .i64 (j9 : Int), .pointer (some ⟨kb, ko + j9, none⟩), .int .i64 p1] p1 wr.heap.size) (by kernel_rfl) (by kernel_rfl) (by kernel_rfl) (by kernel_rfl) (fun i x w0 w1 hi h g => psiL_stable h g) ?_ ?_
                  · simp only [List.take_succ_cons, List.take_zero]
                    refine ⟨?_, ?_, ?_, ?_, ?_, ?_, ?_, ?_, trivial⟩
                    · intro VV W0 AA g hV hs hz
                      have e05 := hz 5 (.pointer (some ⟨B, 0, none⟩)) (by kernel_rfl) rfl
                      clear hV hs hz
                      refine outO_val (v := .pointer (some ⟨B, 0, none⟩)) (w' := W0) ?_ (World.grownBy.refl _ _) (psiL_mk (by simp) rfl)
                      simp [go_sem, e05]
                    · intro VV W0 AA g hV hs hz
                      have gD : wr.grownBy W0 none := grown_trans (grown_drew (World.grownBy.refl _ none)) g
                      have q0 : VV 0 = .pointer (some ⟨B, 0, none⟩) := psiL_f (hV 0 (by kernel_rfl)) (by simp)
                      have e0 := hs 100 0 (by kernel_rfl) (by kernel_rfl)
                      have x0 := gD.cell b0 (by simp)
                      clear hV hs hz
                      refine outO_val (v := .slice ak P ck) (w' := W0) ?_ (World.grownBy.refl _ _) (psiL_mk (by simp) rfl)
                      simp [go_sem, q0, e0, x0]
                    · intro VV W0 AA g hV hs hz
                      have e07 := hz 7 (.pointer (some ⟨Y, 0, none⟩)) (by kernel_rfl) rfl
                      clear hV hs hz
                      refine outO_val (v := .pointer (some ⟨Y, 0, none⟩)) (w' := W0) ?_ (World.grownBy.refl _ _) (psiL_mk (by simp) rfl)
                      simp [go_sem, e07]
                    · intro VV W0 AA g hV hs hz
                      have gD : wr.grownBy W0 none := grown_trans (grown_drew (World.grownBy.refl _ none)) g
                      have q2 : VV 2 = .pointer (some ⟨Y, 0, none⟩) := psiL_f (hV 2 (by kernel_rfl)) (by simp)
                      have e2 := hs 102 2 (by kernel_rfl) (by kernel_rfl)
                      have x0 := gD.cell y0 (by simp)
                      clear hV hs hz
                      refine outO_val (v := .slice (some ⟨kb, ko, none⟩) e.n e.kc) (w' := W0) ?_ (World.grownBy.refl _ _) (psiL_mk (by simp) rfl)
                      simp [go_sem, q2, e2, x0]
                    · intro VV W0 AA g hV hs hz
                      have e09 := hz 9 (.int .i64 (j9 : Int)) (by kernel_rfl) rfl
                      clear hV hs hz
                      refine outO_val (v := .int .i64 (j9 : Int)) (w' := W0) ?_ (World.grownBy.refl _ _) (psiL_mk (by simp) rfl)
                      simp [go_sem, e09]
                    · intro VV W0 AA g hV hs hz
                      have q3 : VV 3 = .slice (some ⟨kb, ko, none⟩) e.n e.kc := psiL_f (hV 3 (by kernel_rfl)) (by simp)
                      have e3 := hs 103 3 (by kernel_rfl) (by kernel_rfl)
                      have q4 : VV 4 = .int .i64 (j9 : Int) := psiL_f (hV 4 (by kernel_rfl)) (by simp)
                      have e4 := hs 104 4 (by kernel_rfl) (by kernel_rfl)
                      clear hV hs hz
                      refine outO_val (v := .pointer (some ⟨kb, ko + j9, none⟩)) (w' := W0) ?_ (World.grownBy.refl _ _) (psiL_mk (by simp) rfl)
                      simp [go_sem, q3, e3, q4, e4, hjn']
                    · intro VV W0 AA g hV hs hz
                      have gD : wr.grownBy W0 none := grown_trans (grown_drew (World.grownBy.refl _ none)) g
                      have q5 : VV 5 = .pointer (some ⟨kb, ko + j9, none⟩) := psiL_f (hV 5 (by kernel_rfl)) (by simp)
                      have e5 := hs 105 5 (by kernel_rfl) (by kernel_rfl)
                      have x0 := gD.cell hkc (by simp)
                      clear hV hs hz
                      refine outO_val (v := .int .i64 p1) (w' := W0) ?_ (World.grownBy.refl _ _) (psiL_mk (by simp) rfl)
                      simp [go_sem, q5, e5, x0]
                    · intro VV W0 AA g hV hs hz
                      have q6 : VV 6 = .int .i64 p1 := psiL_f (hV 6 (by kernel_rfl)) (by simp)
                      have e6 := hs 106 6 (by kernel_rfl) (by kernel_rfl)
                      clear hV hs hz
                      refine outO_val (v := .slice (some ⟨W0.heap.size, 0, none⟩) 1 1) (w' := W0.alloc (Obj.cells #[.int .i64 (p1)] 3)) ?_ (World.grownBy_alloc _ _ _) (psiL_new (by simp) (by have := g.size; exact this))
                      simp [go_sem, q6, e6]
                  · intro VV W0 g hV
                    have gD : wr.grownBy W0 none := grown_trans (grown_drew (World.grownBy.refl _ none)) g
                    have h0 : VV 0 = .pointer (some ⟨B, 0, none⟩) := psiL_f (hV 0 (by decide)) (by simp)
                    have h1 : VV 1 = .slice ak P ck := psiL_f (hV 1 (by decide)) (by simp)
                    have h2 : VV 2 = .pointer (some ⟨Y, 0, none⟩) := psiL_f (hV 2 (by decide)) (by simp)
                    have h3 : VV 3 = .slice (some ⟨kb, ko, none⟩) e.n e.kc := psiL_f (hV 3 (by decide)) (by simp)
                    have h4 : VV 4 = .int .i64 (j9 : Int) := psiL_f (hV 4 (by decide)) (by simp)
                    have h5 : VV 5 = .pointer (some ⟨kb, ko + j9, none⟩) := psiL_f (hV 5 (by decide)) (by simp)
                    have h6 : VV 6 = .int .i64 p1 := psiL_f (hV 6 (by decide)) (by simp)
                    obtain ⟨T1, h7, o1⟩ := psiL_e (hV 7 (by decide)) (by simp)
                    simp [frV, dstOf, Act.put, h0, h1, h2, h3, h4, h5, h6, h7]
                    clear h0 h1 h2 h3 h4 h5 h6 h7 hV g
                    have HgD : Hid (wr.grownBy W0 none) := gD
                    have hgs := gD.size
                    have HoK0 : Hid (OwnZ W0 (B + 1) (.slice ak P ck) (Ty.k1 (Ty.prj x (Ty.lie T) (Ty.wk T) q j9))) := HoK.out.grow gD
                    have HO1 : Hid (OwnZ W0 wr.heap.size (.slice (some ⟨T1, 0, none⟩) 1 1) [p1]) := o1
                    clear gD o1
                    go_wp2_with (at_builtin; refine wp_appZx rfl _ _ rfl (B + 1) (.slice ak P ck) (Ty.k1 (Ty.prj x (Ty.lie T) (Ty.wk T) q j9)) [p1] T1 1 wr.heap.size rfl HoK0.out rfl HO1.out (by simp) hl1 (by simp) (by omega) ?_; intro v4 w4 ho4 hg4' hq4'; have hg4 : wr.grownBy w4 (Value.slice ak P ck).ownBlock := grown_trans (grown_noneR _ HgD.out) hg4'; have hq4 : ∀ q, v4.ownBlock = some q → (Value.slice ak P ck).ownBlock = some q ∨ wr.heap.size ≤ q := (fun q hv => app_in hq4' hgs hv); have hbl4 := HX9.out.midK hg4; obtain ⟨hX5, hC5⟩ := HX9.out.putK ho4 hg4 hq4; obtain ⟨a4, c4, hv4, _⟩ := ho4.slice; rw [List.length_append, lk1, List.length_singleton] at hv4; subst hv4; have m0 : w4.cell? ⟨B, 0, none⟩ = some (.slice ak P ck) := (by simp [World.cell?, hbl4]); have z0 : w4.frozen? ⟨B, 0, none⟩ = false := (by simp [World.frozen?, hbl4]); clear hg4' hq4')
                    obtain ⟨W5, hW5⟩ : ∃ W5, W5 = w4.setCell ⟨B, 0, none⟩ (.slice a4 (P + 1) c4) := ⟨_, rfl⟩
                    rw [← hW5] at hX5 hC5 ⊢
                    clear hW5 m0 z0 hbl4 ho4 hg4 hq4 y0 y0' b0 b0' hkc k0' hgs
                    have hYo : Y ∉ B :: (Value.slice ak P ck).ownBlock.toList := by
                      have := HoK.out.notLot HYn.out
                      simp
                      exact ⟨fun e => hBY e.symm, this⟩
                    have hY5 := (hC5.block Y (Array.getElem?_eq_some_iff.1 HYn.out).1 hYo).trans HYn.out
                    have HY5 : Hid (W5.heap[Y]? = some (.cells #[.slice e.ka e.n e.kc, .slice e.oa e.n e.oc, .bool eb] 73 (0, 0))) := hY5
                    have HX5 : Hid (Lx wb W5 B (.slice a4 (P + 1) c4) (.slice ao P co) (Ty.ar x (Ty.lie T) (q + 1)) (Ty.k1 (Ty.prj x (Ty.lie T) (Ty.wk T) q j9) ++ [p1]) (Ty.k2 (Ty.prj x (Ty.lie T) (Ty.wk T) q j9))) := hX5
                    have hoc5 : W5.cell? ⟨ob, oo + j9, none⟩ = some (.int .i64 p2) := hC5.cell HOc.out (fun hm => by
                      simp at hm
                      have h1 := HBn.out
                      rcases hm with e1 | e1
                      · omega
                      · have := HoK.out.base ob e1; omega)
                    have y1 : W5.cell? ⟨Y, 1, none⟩ = some (.slice e.oa e.n e.oc) := by simp [World.cell?, hY5]
                    rw [HOa.out] at y1
                    have b1 := hX5.c1
                    have HoO : Hid (OwnZ W5 (B + 1) (.slice ao P co) (Ty.k2 (Ty.prj x (Ty.lie T) (Ty.wk T) q j9))) := hX5.oO
                    have hlt5 := hX5.lt
                    have hwr : IntKind.i64.wrap (G + p2) = G + p2 := by rw [IntKind.wrap_i64]; omega
                    clear hX5 hY5 hYo hC5
                    go_wp2_with fail
                    refine region_src 10 (psiL [.pointer (some ⟨B, 1, none⟩), .slice ao P co, .int .i64 G, .pointer (some ⟨Y, 1, none⟩), .slice (some ⟨ob, oo, none⟩) e.n e.oc, .int .i64 (j9 : Int), .pointer (some ⟨ob, oo + j9, none⟩), .int .i64 p2, .int .i64 (G + p2)] (G + p2) W5.heap.size) (by kernel_rfl) (by kernel_rfl) (by kernel_rfl) (by kernel_rfl) (fun i x w0 w1 hi h g => psiL_stable h g) ?_ ?_
                    · simp only [List.take_succ_cons, List.take_zero]
                      refine ⟨?_, ?_, ?_, ?_, ?_, ?_, ?_, ?_, ?_, ?_, trivial⟩
                      · intro VV W0 AA g hV hs hz
                        have e05 := hz 5 (.pointer (some ⟨B, 0, none⟩)) (by kernel_rfl) rfl
                        clear hV hs hz
                        refine outO_val (v := .pointer (some ⟨B, 1, none⟩)) (w' := W0) ?_ (World.grownBy.refl _ _) (psiL_mk (by simp) rfl)
                        simp [go_sem, e05]
                      · intro VV W0 AA g hV hs hz
                        have gD : W5.grownBy W0 none := grown_trans (grown_drew (World.grownBy.refl _ none)) g
                        have q0 : VV 0 = .pointer (some ⟨B, 1, none⟩) := psiL_f (hV 0 (by kernel_rfl)) (by simp)
                        have e0 := hs 110 0 (by kernel_rfl) (by kernel_rfl)
                        have x0 := gD.cell b1 (by simp)
                        clear hV hs hz
                        refine outO_val (v := .slice ao P co) (w' := W0) ?_ (World.grownBy.refl _ _) (psiL_mk (by simp) rfl)
                        simp [go_sem, q0, e0, x0]
                      · intro VV W0 AA g hV hs hz
                        have e08 := hz 8 (.int .i64 G) (by kernel_rfl) rfl
                        clear hV hs hz
                        refine outO_val (v := .int .i64 G) (w' := W0) ?_ (World.grownBy.refl _ _) (psiL_mk (by simp) rfl)
                        simp [go_sem, e08]
                      · intro VV W0 AA g hV hs hz
                        have e07 := hz 7 (.pointer (some ⟨Y, 0, none⟩)) (by kernel_rfl) rfl
                        clear hV hs hz
                        refine outO_val (v := .pointer (some ⟨Y, 1, none⟩)) (w' := W0) ?_ (World.grownBy.refl _ _) (psiL_mk (by simp) rfl)
                        simp [go_sem, e07]
                      · intro VV W0 AA g hV hs hz
                        have gD : W5.grownBy W0 none := grown_trans (grown_drew (World.grownBy.refl _ none)) g
                        have q3 : VV 3 = .pointer (some ⟨Y, 1, none⟩) := psiL_f (hV 3 (by kernel_rfl)) (by simp)
                        have e3 := hs 113 3 (by kernel_rfl) (by kernel_rfl)
                        have x0 := gD.cell y1 (by simp)
                        clear hV hs hz
                        refine outO_val (v := .slice (some ⟨ob, oo, none⟩) e.n e.oc) (w' := W0) ?_ (World.grownBy.refl _ _) (psiL_mk (by simp) rfl)
                        simp [go_sem, q3, e3, x0]
                      · intro VV W0 AA g hV hs hz
                        have e09 := hz 9 (.int .i64 (j9 : Int)) (by kernel_rfl) rfl
                        clear hV hs hz
                        refine outO_val (v := .int .i64 (j9 : Int)) (w' := W0) ?_ (World.grownBy.refl _ _) (psiL_mk (by simp) rfl)
                        simp [go_sem, e09]
                      · intro VV W0 AA g hV hs hz
                        have q4 : VV 4 = .slice (some ⟨ob, oo, none⟩) e.n e.oc := psiL_f (hV 4 (by kernel_rfl)) (by simp)
                        have e4 := hs 114 4 (by kernel_rfl) (by kernel_rfl)
                        have q5 : VV 5 = .int .i64 (j9 : Int) := psiL_f (hV 5 (by kernel_rfl)) (by simp)
                        have e5 := hs 115 5 (by kernel_rfl) (by kernel_rfl)
                        clear hV hs hz
                        refine outO_val (v := .pointer (some ⟨ob, oo + j9, none⟩)) (w' := W0) ?_ (World.grownBy.refl _ _) (psiL_mk (by simp) rfl)
                        simp [go_sem, q4, e4, q5, e5, hjn']
                      · intro VV W0 AA g hV hs hz
                        have gD : W5.grownBy W0 none := grown_trans (grown_drew (World.grownBy.refl _ none)) g
                        have q6 : VV 6 = .pointer (some ⟨ob, oo + j9, none⟩) := psiL_f (hV 6 (by kernel_rfl)) (by simp)
                        have e6 := hs 116 6 (by kernel_rfl) (by kernel_rfl)
                        have x0 := gD.cell hoc5 (by simp)
                        clear hV hs hz
                        refine outO_val (v := .int .i64 p2) (w' := W0) ?_ (World.grownBy.refl _ _) (psiL_mk (by simp) rfl)
                        simp [go_sem, q6, e6, x0]
                      · intro VV W0 AA g hV hs hz
                        have q2 : VV 2 = .int .i64 G := psiL_f (hV 2 (by kernel_rfl)) (by simp)
                        have e2 := hs 112 2 (by kernel_rfl) (by kernel_rfl)
                        have q7 : VV 7 = .int .i64 p2 := psiL_f (hV 7 (by kernel_rfl)) (by simp)
                        have e7 := hs 117 7 (by kernel_rfl) (by kernel_rfl)
                        clear hV hs hz
                        refine outO_val (v := .int .i64 (G + p2)) (w' := W0) ?_ (World.grownBy.refl _ _) (psiL_mk (by simp) rfl)
                        simp [go_sem, q2, e2, q7, e7, hwr]
                      · intro VV W0 AA g hV hs hz
                        have q8 : VV 8 = .int .i64 (G + p2) := psiL_f (hV 8 (by kernel_rfl)) (by simp)
                        have e8 := hs 118 8 (by kernel_rfl) (by kernel_rfl)
                        clear hV hs hz
                        refine outO_val (v := .slice (some ⟨W0.heap.size, 0, none⟩) 1 1) (w' := W0.alloc (Obj.cells #[.int .i64 ((G + p2))] 3)) ?_ (World.grownBy_alloc _ _ _) (psiL_new (by simp) (by have := g.size; exact this))
                        simp [go_sem, q8, e8]
                    · intro VV W0 g hV
                      have gD : W5.grownBy W0 none := grown_trans (grown_drew (World.grownBy.refl _ none)) g
                      have h0 : VV 0 = .pointer (some ⟨B, 1, none⟩) := psiL_f (hV 0 (by decide)) (by simp)
                      have h1 : VV 1 = .slice ao P co := psiL_f (hV 1 (by decide)) (by simp)
                      have h2 : VV 2 = .int .i64 G := psiL_f (hV 2 (by decide)) (by simp)
                      have h3 : VV 3 = .pointer (some ⟨Y, 1, none⟩) := psiL_f (hV 3 (by decide)) (by simp)
                      have h4 : VV 4 = .slice (some ⟨ob, oo, none⟩) e.n e.oc := psiL_f (hV 4 (by decide)) (by simp)
                      have h5 : VV 5 = .int .i64 (j9 : Int) := psiL_f (hV 5 (by decide)) (by simp)
                      have h6 : VV 6 = .pointer (some ⟨ob, oo + j9, none⟩) := psiL_f (hV 6 (by decide)) (by simp)
                      have h7 : VV 7 = .int .i64 p2 := psiL_f (hV 7 (by decide)) (by simp)
                      have h8 : VV 8 = .int .i64 (G + p2) := psiL_f (hV 8 (by decide)) (by simp)
                      obtain ⟨T1, h9, o1⟩ := psiL_e (hV 9 (by decide)) (by simp)
                      simp [frV, dstOf, Act.put, h0, h1, h2, h3, h4, h5, h6, h7, h8, h9]
                      clear h0 h1 h2 h3 h4 h5 h6 h7 h8 h9 hV g
                      have HgD5 : Hid (W5.grownBy W0 none) := gD
                      have hgs := gD.size
                      have HoO0 : Hid (OwnZ W0 (B + 1) (.slice ao P co) (Ty.k2 (Ty.prj x (Ty.lie T) (Ty.wk T) q j9))) := HoO.out.grow gD
                      have HO1 : Hid (OwnZ W0 W5.heap.size (.slice (some ⟨T1, 0, none⟩) 1 1) [G + p2]) := o1
                      clear gD o1
                      go_wp2_with (at_builtin; refine wp_appZx rfl _ _ rfl (B + 1) (.slice ao P co) (Ty.k2 (Ty.prj x (Ty.lie T) (Ty.wk T) q j9)) [G + p2] T1 1 W5.heap.size rfl HoO0.out rfl HO1.out (by simp) hl2 (by simp) (by omega) ?_; intro v6 w6 ho6 hg6' hq6'; have hg6 : W5.grownBy w6 (Value.slice ao P co).ownBlock := grown_trans (grown_noneR _ HgD5.out) hg6'; have hq6 : ∀ q, v6.ownBlock = some q → (Value.slice ao P co).ownBlock = some q ∨ W5.heap.size ≤ q := (fun q hv => app_in hq6' hgs hv); have hbl6 := HX5.out.midO hg6; obtain ⟨hX7, hC7⟩ := HX5.out.putO ho6 hg6 hq6; obtain ⟨a6, c6, hv6, _⟩ := ho6.slice; rw [List.length_append, lk2, List.length_singleton] at hv6; subst hv6; have m1 : w6.cell? ⟨B, 1, none⟩ = some (.slice ao P co) := (by simp [World.cell?, hbl6]); have z1 : w6.frozen? ⟨B, 1, none⟩ = false := (by simp [World.frozen?, hbl6]); have hYo7 : Y ∉ B :: (Value.slice ao P co).ownBlock.toList := (by have := HoO.out.notLot HY5.out; simp; exact ⟨fun e => hBY e.symm, this⟩); have hY7 := (hC7.block Y (Array.getElem?_eq_some_iff.1 HY5.out).1 hYo7).trans HY5.out; have HX7 : Hid (Lx wb (w6.setCell ⟨B, 1, none⟩ (.slice a6 (P + 1) c6)) B (.slice a4 (P + 1) c4) (.slice a6 (P + 1) c6) (Ty.ar x (Ty.lie T) (q + 1)) (Ty.k1 (Ty.prj x (Ty.lie T) (Ty.wk T) q j9) ++ [p1]) (Ty.k2 (Ty.prj x (Ty.lie T) (Ty.wk T) q j9) ++ [G + p2])) := hX7; have HY7 : Hid ((w6.setCell ⟨B, 1, none⟩ (.slice a6 (P + 1) c6)).heap[Y]? = some (.cells #[.slice e.ka e.n e.kc, .slice e.oa e.n e.oc, .bool eb] 73 (0, 0))) := hY7; clear hg6' hq6' hX7 hY7 hYo7 hC7)
                      go_roundw
                      case rel => exact ⟨j9 + 1, _, _, by go_num, by omega, by rw [HS1.out.1, HS1.out.2]; exact HX7.out, HY7.out⟩
                      case measure => simp [intOf]; omega
                · have hend : Ty.prj x (Ty.lie T) (Ty.wk T) q j9 = Ty.pre x (Ty.lie T) (Ty.wk T) (q + 1) := Ty.prj_end (by rw [← HE17.out.2, ← HE17.out.1, ← HP.out]; omega)
                  have HXe : Hid (Lx wb wr B (.slice ak P ck) (.slice ao P co) (Ty.ar x (Ty.lie T) (q + 1)) (Ty.k1 (Ty.pre x (Ty.lie T) (Ty.wk T) (q + 1))) (Ty.k2 (Ty.pre x (Ty.lie T) (Ty.wk T) (q + 1)))) := by rw [← hend]; exact HX9.out
                  clear hend
                  by_cases hjn : j9 < e.n
                  · have hjn' : (j9 : Int) < e.n := by omega
                    have hP16' : ¬ (P : Int) ≤ 16 := by omega
                    clear hcont
                    go_wp2
                    go_roundw
                    case rel => exact ⟨q + 1, _, _, by go_num, by omega, HXe.out⟩
                    case measure => simp [intOf]; omega
                  · have hjn' : ¬ (j9 : Int) < e.n := by omega
                    clear hcont
                    go_wp2
                    go_roundw
                    case rel => exact ⟨q + 1, _, _, by go_num, by omega, HXe.out⟩
                    case measure => simp [intOf]; omega)
          · obtain rfl : q = x.nf := by omega
            obtain ⟨ak, ck, hvk, _⟩ := hX.oK.slice
            obtain ⟨ao, co, hvo, _⟩ := hX.oO.slice
            have hll : (Ty.k2 (Ty.pre x (Ty.lie T) (Ty.wk T) x.nf)).length = (Ty.k1 (Ty.pre x (Ty.lie T) (Ty.wk T) x.nf)).length := by rw [Ty.k1, Ty.k2, List.length_map, List.length_map]
            rw [hll] at hvo
            generalize (Ty.k1 (Ty.pre x (Ty.lie T) (Ty.wk T) x.nf)).length = P at hvk hvo
            subst hvk hvo
            have r0 := hX.c0
            have r1 := hX.c1
            have r2 := hX.c2
            have hs7 := hX.lt
            have hgz := hX.gr.size
            clear hX hll
            generalize Ty.ar x (Ty.lie T) x.nf = aa at *
            go_wp2_with (at_builtin; refine wp_appL rfl _ _ rfl w.heap.size (.slice la k lc) l ⟨ak, P, ck, ao, co, aa⟩ rfl (HL.out.own.grow HX.out.gr) rfl (by simp) (by omega) (by omega) ?_; intro v8 w8 ho8 hg8)
            go_roundw
            case rel => exact ⟨k + 1, _, by go_num, by omega, HL.out.push HX.out HEw.out.1 HEw.out.2.1 HEw.out.2.2 rfl rfl rfl ho8 hg8⟩
            case measure => simp [intOf]; omega
      · have ew : Ty.w17 T k = [(11, 0), (5, 8)] := by unfold Ty.w17; rw [Ty.wk_eq hok]; unfold Ty.wkOf; rw [if_neg (by omega), if_neg (by omega), if_pos hk']; rfl
        have ea : (Ty.lie T k).arr = false := by rw [Ty.lie_eq hok]; unfold Ty.lieOf; rw [if_neg (by omega), if_neg (by omega), if_pos hk']
        have HEw : Hid ([11, 5] = Ty.k1 (Ty.w17 T k) ∧ [0, 8] = Ty.k2 (Ty.w17 T k) ∧ false = (Ty.lie T k).arr) := by rw [ew, ea]; exact ⟨rfl, rfl, rfl⟩
        have hkk : (T k).kind = 14 ∨ ((T k).kind == 14) = false ∧ (T k).kind = 15 := by simp; omega
        have k1 : ((T k).kind == 12) = false := by simp; omega
        have HX := HNew.out
        have x0 := HX.c0
        clear hl hty hok hg0 ew ea hk' i3 i4 HX
        generalize (T k).kind = kd at *
        rcases hkk with rfl | ⟨hk14, rfl⟩
        all_goals (
          go_wp2_with (first
            | (at_builtin; refine wp_appY2 rfl _ _ rfl (wb.heap.size + 1) (.slice none 0 0) [] 11 5 rfl HNew.out.oK rfl (by simp) (by simp) (by simp) ?_; intro v4 w4 ho4 hg4 hq4; have hbl4 := HNew.out.midK hg4; obtain ⟨hX5, hC5⟩ := HNew.out.putK ho4 hg4 hq4; obtain ⟨a4, p4, hv4, _⟩ := ho4.slice; simp only [List.length_append, List.length_cons, List.length_nil, Nat.zero_add, Nat.reduceAdd] at hv4; subst hv4; have m0 : w4.cell? ⟨wb.heap.size, 0, none⟩ = some (.slice none 0 0) := (by simp [World.cell?, hbl4]); have z0 : w4.frozen? ⟨wb.heap.size, 0, none⟩ = false := (by simp [World.frozen?, hbl4]); have HX5 := hX5; have y1 := hX5.c1; have hs5 := hX5.lt; clear ho4 hg4 hq4 hbl4)
            | (at_builtin; refine wp_appY2 rfl _ _ rfl (wb.heap.size + 1) (.slice none 0 0) [] 0 8 rfl HX5.oO rfl (by simp) (by simp) (by omega) ?_; intro v6 w6 ho6 hg6 hq6; have hbl6 := HX5.midO hg6; obtain ⟨hX7, hC7⟩ := HX5.putO ho6 hg6 hq6; obtain ⟨a6, p6, hv6, _⟩ := ho6.slice; simp only [List.length_append, List.length_cons, List.length_nil, Nat.zero_add, Nat.reduceAdd] at hv6; subst hv6; have m1 : w6.cell? ⟨wb.heap.size, 1, none⟩ = some (.slice none 0 0) := (by simp [World.cell?, hbl6]); have z1 : w6.frozen? ⟨wb.heap.size, 1, none⟩ = false := (by simp [World.frozen?, hbl6]); have HX7 := hX7; have r0 := hX7.c0; have r1 := hX7.c1; have r2 := hX7.c2; have hs7 := hX7.lt; clear ho6 hg6 hq6 hbl6)
            | (at_builtin; refine wp_appL rfl _ _ rfl w.heap.size (.slice la k lc) l ⟨a4, 2, p4, a6, p6, false⟩ rfl (HL.out.own.grow HX7.gr) rfl (by simp) (by omega) (by omega) ?_; intro v8 w8 ho8 hg8))
          go_roundw
          case rel => exact ⟨k + 1, _, by go_num, by omega, HL.out.push HX7 HEw.out.1 HEw.out.2.1 HEw.out.2.2 rfl rfl rfl ho8 hg8⟩
          case measure => simp [intOf]; omega)
      · have ew : Ty.w17 T k = [((T k).kind, 0)] := by unfold Ty.w17; rw [Ty.wk_eq hok]; unfold Ty.wkOf; rw [if_neg (by omega), if_neg (by omega), if_neg (by omega)]; rfl
        have ea : (Ty.lie T k).arr = false := by rw [Ty.lie_eq hok]; unfold Ty.lieOf; rw [if_neg (by omega), if_neg (by omega), if_neg (by omega)]
        have HEw : Hid ([(T k).kind] = Ty.k1 (Ty.w17 T k) ∧ [0] = Ty.k2 (Ty.w17 T k) ∧ false = (Ty.lie T k).arr) := by rw [ew, ea]; exact ⟨rfl, rfl, rfl⟩
        have k1 : ((T k).kind == 12) = false := by simp; omega
        have k2 : ((T k).kind == 13) = false := by simp; omega
        have k3 : ((T k).kind == 14) = false := by simp; omega
        have k4 : ((T k).kind == 15) = false := by simp; omega
        clear hl hty hok ew ea i1 i2 i3 i4
        generalize (T k).kind = kd at *
        go_wp2_with fail
        obtain ⟨B, hB⟩ : ∃ B, B = wb.heap.size := ⟨_, rfl⟩
        obtain ⟨W1, hW1⟩ : ∃ W1, W1 = wb.alloc (.cells #[.slice none 0 0, .slice none 0 0, .bool false] 73) := ⟨_, rfl⟩
        rw [← hW1] at t0 HNew hg0 ⊢
        rw [← hB] at HNew ⊢
        have HW1 : Hid (wb.grownBy W1 none) := hg0
        have HB : Hid (B = wb.heap.size) := hB
        clear hg0 hW1 hB
        have hBl := HNew.out.lt
        have c0 := HNew.out.c0
        have c0' : W1.drew.cell? ⟨B, 0, none⟩ = some (.slice none 0 0) := c0
        have t0' : W1.drew.cell? ⟨b, off + k * 4, none⟩ = some (.int .i64 kd) := t0
        have HoK : Hid (OwnZ W1 (B + 1) (.slice none 0 0) []) := HNew.out.oK
        go_region_law (first
          | (refine stepY1d rfl _ _ rfl (B + 1) (.slice none 0 0) [] kd rfl (by exact HoK.out) rfl (by simp) (by omega) ?_; intro v4 w4 ho4 hg4 hq4; have hbl4 := HNew.out.midK hg4; obtain ⟨hX5, hC5⟩ := HNew.out.putK ho4 hg4 hq4; obtain ⟨a4, p4, hv4, _⟩ := ho4.slice; simp only [List.length_append, List.length_cons, List.length_nil, Nat.zero_add] at hv4; subst hv4; have m0 : w4.cell? ⟨B, 0, none⟩ = some (.slice none 0 0) := (by simp [World.cell?, hbl4]); have z0 : w4.frozen? ⟨B, 0, none⟩ = false := (by simp [World.frozen?, hbl4])))
        all_goals (
          have HX5 := hX5
          have y1 := hX5.c1
          have hs5 := hX5.lt
          clear ho4 hg4 hq4 hbl4
          go_wp2_with (first
            | (at_builtin; refine wp_appY1 rfl _ _ rfl (B + 1) (.slice none 0 0) [] 0 rfl HX5.oO rfl (by simp) (by simp) (by omega) ?_; intro v6 w6 ho6 hg6 hq6; have hbl6 := HX5.midO hg6; obtain ⟨hX7, hC7⟩ := HX5.putO ho6 hg6 hq6; obtain ⟨a6, p6, hv6, _⟩ := ho6.slice; simp only [List.length_append, List.length_cons, List.length_nil, Nat.zero_add] at hv6; subst hv6; have m1 : w6.cell? ⟨B, 1, none⟩ = some (.slice none 0 0) := (by simp [World.cell?, hbl6]); have z1 : w6.frozen? ⟨B, 1, none⟩ = false := (by simp [World.frozen?, hbl6]); have HX7 := hX7; have r0 := hX7.c0; have r1 := hX7.c1; have r2 := hX7.c2; have hs7 := hX7.lt; have hgz := hX7.gr.size; clear ho6 hg6 hq6 hbl6)
            | (at_builtin; refine wp_appL rfl _ _ rfl w.heap.size (.slice la k lc) l ⟨a4, 1, p4, a6, p6, false⟩ rfl (HL.out.own.grow HX7.gr) rfl (by simp) (by omega) (by omega) ?_; intro v8 w8 ho8 hg8))
          go_roundw
          case rel => exact ⟨k + 1, _, by go_num, by omega, HL.out.push HX7 HEw.out.1 HEw.out.2.1 HEw.out.2.2 rfl rfl rfl ho8 hg8⟩
          case measure => simp [intOf]; omega)
    · obtain rfl : k = m := by omega
      clear hl
      go_wp2
      go_ret
      exact ⟨_, l, rfl, HL.out⟩
end Go.Proofs.Ytlkldehapkgdaaa
