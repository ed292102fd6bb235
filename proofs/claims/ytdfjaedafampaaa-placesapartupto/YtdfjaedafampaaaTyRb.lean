/- gantryref7.lay. -/
import Derived.Test.YtdfjaedafampaaaTyRa
namespace Go.Proofs.Ytdfjaedafampaaa
open Go.RowKit
set_option linter.unusedVariables false

theorem up_tdiv {n a : Int} (ha : Ty.Al a) (hn : 0 ≤ n) : (n + a - 1).tdiv a * a = Ty.up n a := by
  have := ha.pos
  rw [Int.tdiv_eq_ediv_of_nonneg (by omega)]
  rfl
theorem ret_pair {a b c d : Int} (h1 : a = b) (h2 : c = d) : Ending.returned (.tuple #[.int .i64 a, .int .i64 c]) = .returned (.tuple #[.int .i64 b, .int .i64 d]) := by rw [h1, h2]
theorem NumIn.val {N : Nat} {w : World} {a : Option Addr} {n c : Nat} {M : Nat → Int} (h : NumIn N w a n c M) {i : Nat} (hi : i < n) : ∃ b off, a = some ⟨b, off, none⟩ ∧ w.cell? ⟨b, off + i, none⟩ = some (.int .i64 (M i)) := by
  obtain ⟨b, off, e, _, hc⟩ := h.at hi
  exact ⟨b, off, e, hc⟩
set_option maxRecDepth 100000 in
set_option maxHeartbeats 8000000 in
theorem rlay_any {N M : Nat} {w : World} {x : Ty.TyV} {fa sa aa : Option Addr} {fc sc ac i n : Nat} {L : Nat → Ty.Li} (hx : NumIn N w fa x.nf fc x.F) (hS : NumIn M w sa i sc (fun j => (L j).size)) (hA : NumIn M w aa i ac (fun j => (L j).align)) (hok : Ty.okB x i n = true) (hL : ∀ j, j < i → Ty.Good (L j) ∧ (L j).size ≤ 65536) :
    Calls Try.prog 46 #[.agg #[.int .i64 x.kind, .int .i64 x.elem, .int .i64 x.n, .slice fa x.nf fc], .slice sa i sc, .slice aa i ac] w fun e w' => e = .returned (.tuple #[.int .i64 (Ty.lieOf x L).size, .int .i64 (Ty.lieOf x L).align]) ∧ w.grownBy w' none := by
  obtain ⟨W1, hW1⟩ : ∃ W1, W1 = w.alloc (.cells #[.int .i64 x.kind, .int .i64 x.elem, .int .i64 x.n, .slice fa x.nf fc] 50) := ⟨_, rfl⟩
  have hg1 : w.grownBy W1 none := by rw [hW1]; exact World.grownBy_alloc _ _ _
  have HG1 : Hid (w.grownBy W1 none) := hg1
  have HW1 : Hid (W1 = w.alloc (.cells #[.int .i64 x.kind, .int .i64 x.elem, .int .i64 x.n, .slice fa x.nf fc] 50)) := hW1
  have HB : Hid (∀ j v, (#[.int .i64 x.kind, .int .i64 x.elem, .int .i64 x.n, .slice fa x.nf fc] : Array Value)[j]? = some v → W1.cell? ⟨w.heap.size, j, none⟩ = some v) := fun j v hv => by rw [hW1, ← hv]; exact cells_new _ _ rfl _
  have HX : Hid (NumIn N W1 fa x.nf fc x.F) := hx.grow hg1
  have HS : Hid (NumIn M W1 sa i sc (fun j => (L j).size)) := hS.grow hg1
  have HA : Hid (NumIn M W1 aa i ac (fun j => (L j).align)) := hA.grow hg1
  have hil := hS.le
  have him := hS.max
  have hil2 := hA.le
  have him2 := hA.max
  have hfl := hx.le
  have hfm := hx.max
  unfold maxLen at him him2 hfm
  rcases Ty.ok_cases hok with ⟨hk, h1, h2, h3, h4, h5⟩ | ⟨hk, h1, h2, h16, hf⟩ | ⟨hk, h1, h2⟩ | ⟨h1, h2, h3, h4⟩
  · obtain ⟨j, hj⟩ : ∃ j : Nat, x.elem = j := ⟨x.elem.toNat, by omega⟩
    have hji : j < i := by omega
    have hji' : (j : Int) < i := by omega
    obtain ⟨hgd, hs⟩ := hL j hji
    have hs0 : 0 ≤ (L j).size := by have := hgd.w0; have := hgd.ws; omega
    obtain ⟨b1, o1, rfl, c1⟩ := HS.out.val hji
    obtain ⟨b2, o2, rfl, c2⟩ := HA.out.val hji
    have hm := Int.mul_le_mul h4 hs hs0 (by omega)
    have hm0 : 0 ≤ x.n * (L j).size := Int.mul_nonneg h3 hs0
    have HR : Hid ((Ty.lieOf x L).size = x.n * (L j).size ∧ (Ty.lieOf x L).align = (L j).align) := by
      have e : x.elem.toNat = j := by omega
      unfold Ty.lieOf
      rw [if_pos hk, e]
      exact ⟨rfl, rfl⟩
    rw [HR.out.1, HR.out.2]
    have k0 := HB.out 0 _ rfl
    have k1 := HB.out 1 _ rfl
    have k2 := HB.out 2 _ rfl
    have k3 := HB.out 3 _ rfl
    rw [hk] at k0
    rw [hj] at k1
    have HMM : Hid (wrap64 (x.n * (L j).size) = x.n * (L j).size) := by show _ = _; unfold wrap64; omega
    clear hx hS hA hok hL hgd hW1 hg1 HX HS HA HR h5
    generalize (L j).size = S at *
    generalize (L j).align = A at *
    obtain ⟨kd, el, nn, nf, FF⟩ := x
    simp only at *
    subst hk
    subst hj
    go_enter Try.func46, Try.ntmps46
    go_wp2_with fail
    rw [← HW1.out]
    go_quiet (fail)
    go_wp2
    go_ret2
    exact ⟨rfl, grown_trans HG1.out (grown_drewN (World.grownBy.refl _ _) _)⟩
  · have hgf : ∀ k, k < x.nf → Ty.Good (Ty.fl x L k) ∧ (Ty.fl x L k).size ≤ 65536 := fun k hk' => hL _ (by have := hf k hk'; omega)
    have HR : Hid ((Ty.lieOf x L).size = Ty.up (Ty.en x L x.nf) (Ty.al x L x.nf) ∧ (Ty.lieOf x L).align = Ty.al x L x.nf) := by
      unfold Ty.lieOf
      rw [if_neg (by omega), if_pos hk]
      exact ⟨rfl, rfl⟩
    rw [HR.out.1, HR.out.2]
    obtain ⟨U9, hU9⟩ : ∃ U, U = Ty.up (Ty.en x L x.nf) (Ty.al x L x.nf) := ⟨_, rfl⟩
    obtain ⟨A9, hA9⟩ : ∃ A, A = Ty.al x L x.nf := ⟨_, rfl⟩
    rw [← hU9, ← hA9]
    rw [← hA9] at hU9
    have HU9 : Hid (U9 = Ty.up (Ty.en x L x.nf) A9) := hU9
    have HA9 : Hid (A9 = Ty.al x L x.nf) := hA9
    clear hU9 hA9
    have HGf : Hid (∀ k, k < x.nf → Ty.Good (Ty.fl x L k) ∧ (Ty.fl x L k).size ≤ 65536) := hgf
    have HFi : Hid (∀ k, k < x.nf → 0 ≤ x.F k ∧ x.F k < i) := hf
    have h16' : (x.nf : Int) ≤ 16 := by omega
    have HB3 : Hid (W1.cell? ⟨w.heap.size, 3, none⟩ = some (.slice fa x.nf fc)) := HB.out 3 _ rfl
    have k0 := HB.out 0 _ rfl
    rw [hk] at k0
    rw [hk] at HW1
    clear hx hS hA hok hL hW1 hg1 HR hgf hf HB h1 h2
    generalize hkd : x.kind = kd at *
    clear hkd
    subst hk
    go_enter Try.func46, Try.ntmps46
    go_wp2_with fail
    rw [← HW1.out]
    go_loopw [8, 9, 10] (fun z m ix wr => ∃ k : Nat, ix = .int .i64 k ∧ z = .int .i64 (Ty.en x L k) ∧ m = .int .i64 (Ty.al x L k) ∧ k ≤ x.nf ∧ W1.grownBy wr none) (fun _ _ ix _ => x.nf - (intOf ix).toNat)
    case atStart => exact ⟨0, rfl, rfl, rfl, Nat.zero_le _, World.grownBy.refl _ _⟩
    case round =>
      obtain ⟨k, rfl, rfl, rfl, hk, hg⟩ := hrel
      have HG : Hid (W1.grownBy wr none) := hg
      have c3 := (Ch.of (l := []) hg).cell HB3.out (by simp)
      by_cases hkn : k < x.nf
      · have hkn' : (k : Int) < x.nf := by omega
        obtain ⟨fb, fo, rfl, hcf⟩ := (HX.out.grow hg).val hkn
        have hfk := HFi.out k hkn
        obtain ⟨j, hj⟩ : ∃ j : Nat, x.F k = j := ⟨(x.F k).toNat, by omega⟩
        have hji : j < i := by omega
        have hji' : (j : Int) < i := by omega
        obtain ⟨b1, o1, rfl, c1⟩ := (HS.out.grow hg).val hji
        obtain ⟨b2, o2, rfl, c2⟩ := (HA.out.grow hg).val hji
        rw [hj] at hcf
        have hfl : Ty.fl x L k = L j := by unfold Ty.fl; rw [hj]; rfl
        obtain ⟨hgd, hs6⟩ := HGf.out k hkn
        have hen := Ty.en_spec (k := k) fun q hq => HGf.out q (by omega)
        have hal := Ty.al_al (k := k) fun q hq => (HGf.out q (by omega)).1
        rw [hfl] at hgd hs6
        have hs0 : 0 ≤ (L j).size := by have := hgd.w0; have := hgd.ws; omega
        have HE : Hid (Ty.en x L (k + 1) = Ty.up (Ty.en x L k) (L j).align + (L j).size) := by show _ = _; rw [Ty.en, hfl]
        have HAl : Hid (Ty.al x L (k + 1) = max (Ty.al x L k) (L j).align) := by show _ = _; rw [Ty.al, hfl]
        have ha := hgd.al
        have hup := up_tdiv (n := Ty.en x L k) ha (by omega)
        clear hg hgd hfl hj hfk
        obtain ⟨U, hU⟩ : ∃ U, U = Ty.up (Ty.en x L k) (L j).align := ⟨_, rfl⟩
        rw [← hU] at HE hup
        generalize Ty.en x L k = E at *
        generalize Ty.al x L k = A0 at *
        generalize (L j).size = S at *
        generalize (L j).align = A at *
        have HU : Hid (U = Ty.up E A) := hU
        clear hU hup
        have a0 := hal.pos
        have a1 := hal.le
        rcases ha with rfl | rfl | rfl | rfl
        all_goals (
          go_wp2_with fail
          go_quiet (fail)
          go_wp2
          all_goals (
            have hU := HU.out
            unfold Ty.up at hU
            go_roundw
            case rel => exact ⟨k + 1, by go_num, by rw [HE.out]; congr 1; omega, by rw [HAl.out]; congr 1; omega, by omega, grown_trans HG.out (grown_drewN (World.grownBy.refl _ _) _)⟩
            case measure => simp [intOf]; omega))
      · obtain rfl : k = x.nf := by omega
        have hen := Ty.en_spec (k := x.nf) HGf.out
        have hal := Ty.al_al (k := x.nf) fun q hq => (HGf.out q hq).1
        have HU := HU9.out
        have hA9 := HA9.out
        rw [← hA9] at hal ⊢
        clear hg hA9
        obtain ⟨E, hE⟩ : ∃ E, E = Ty.en x L x.nf := ⟨_, rfl⟩
        rw [← hE] at hen HU ⊢
        have HU2 : Hid (U9 = Ty.up E A9) := HU
        clear hE HU
        clear HA9 HU9
        rcases hal with rfl | rfl | rfl | rfl
        all_goals (
          go_wp2
          go_ret2
          have hU := HU2.out
          unfold Ty.up at hU
          refine ⟨?_, grown_trans HG1.out HG.out⟩
          rw [hU]
          first | rfl | exact ret_pair (by omega) rfl)
  · have HR : Hid ((Ty.lieOf x L).size = 16 ∧ (Ty.lieOf x L).align = 8) := by
      unfold Ty.lieOf
      rw [if_neg (by omega), if_neg (by omega), if_pos hk]
      exact ⟨rfl, rfl⟩
    rw [HR.out.1, HR.out.2]
    obtain ⟨kd, el, nn, nf, FF⟩ := x
    simp only at *
    clear hx hS hA hok hL hW1 hg1 HX HS HA HR HB
    rcases hk with rfl | rfl
    all_goals (
      go_enter Try.func46, Try.ntmps46
      go_wp2
      go_ret2
      exact ⟨rfl, World.grownBy_alloc _ _ _⟩)
  · have HR : Hid ((Ty.lieOf x L).size = Wd.by' x.kind ∧ (Ty.lieOf x L).align = Wd.by' x.kind) := by
      unfold Ty.lieOf
      rw [if_neg (by omega), if_neg (by omega), if_neg (by omega)]
      exact ⟨rfl, rfl⟩
    rw [HR.out.1, HR.out.2]
    obtain ⟨kd, el, nn, nf, FF⟩ := x
    simp only at *
    have k1 : (kd == 12) = false := by simp; omega
    have k2 : (kd == 13) = false := by simp; omega
    have k3 : (kd == 14) = false := by simp; omega
    have k4 : (kd == 15) = false := by simp; omega
    have HC : Hid (∀ W, Calls Try.prog 56 #[.int .i64 kd] W fun e w' => e = .returned (.int .i64 (Wd.by' kd)) ∧ w' = W) := fun W => rbytes_any kd W
    generalize Wd.by' kd = B at *
    clear hx hS hA hok hL hW1 hg1 HX HS HA HR HB h3 h4
    go_enter Try.func46, Try.ntmps46
    go_wp2_with (go_at_call 56; refine (HC.out _).mono ?_; rintro e w3 ⟨rfl, rfl⟩)
    go_ret2
    exact ⟨rfl, World.grownBy_alloc _ _ _⟩
end Go.Proofs.Ytdfjaedafampaaa
