/- Contracts and plain facts that the walks share. -/
import Derived.Test.YtdfjaedafampaaaTyRb
import Derived.Deep.RegionLaw
namespace Go.Proofs.Ytdfjaedafampaaa
open Go.RowKit
set_option linter.unusedVariables false
/-- two rows of numbers of the call's own -/
structure Two (w0 wr : World) (vS vA : Value) (l m : List Int) : Prop where
  oS : OwnZ wr w0.heap.size vS l
  oA : OwnZ wr w0.heap.size vA m
  ap : ∀ q, vS.ownBlock = some q → vA.ownBlock ≠ some q
  gr : w0.grownBy wr none
theorem Two.nil (w : World) : Two w w (.slice none 0 0) (.slice none 0 0) [] [] := ⟨ownZ_nil _ _, ownZ_nil _ _, (fun q h => by cases h), World.grownBy.refl _ _⟩
theorem Two.grow {w0 w w' : World} {vS vA : Value} {l m : List Int} (h : Two w0 w vS vA l m) (hg : w.grownBy w' none) : Two w0 w' vS vA l m := ⟨h.oS.grow hg, h.oA.grow hg, h.ap, grown_trans h.gr hg⟩
theorem Two.putS {w0 w w1 : World} {vS vA vS' : Value} {l m l' : List Int} (h : Two w0 w vS vA l m) (ho : OwnZ w1 w0.heap.size vS' l') (hg : w.grownBy w1 vS.ownBlock) (hq : ∀ q, vS'.ownBlock = some q → vS.ownBlock = some q ∨ w.heap.size ≤ q) : Two w0 w1 vS' vA l' m := by
  have c := grown_ch hg
  refine ⟨ho, h.oA.ch c (fun q hq' hm => h.ap q (by simpa using hm) hq'), fun q hq' e => ?_, ((Ch.of (l := vS.ownBlock.toList) h.gr).trans c).nil (fun q hm => h.oS.base q (by simpa using hm))⟩
  rcases hq q hq' with e1 | e1
  · exact h.ap q e1 e
  · have := h.oA.lt q e; omega
theorem Two.putA {w0 w w1 : World} {vS vA vA' : Value} {l m m' : List Int} (h : Two w0 w vS vA l m) (ho : OwnZ w1 w0.heap.size vA' m') (hg : w.grownBy w1 vA.ownBlock) (hq : ∀ q, vA'.ownBlock = some q → vA.ownBlock = some q ∨ w.heap.size ≤ q) : Two w0 w1 vS vA' l m' := by
  have c := grown_ch hg
  refine ⟨h.oS.ch c (fun q hq' hm => h.ap q hq' (by simpa using hm)), ho, fun q hq' e => ?_, ((Ch.of (l := vA.ownBlock.toList) h.gr).trans c).nil (fun q hm => h.oA.base q (by simpa using hm))⟩
  rcases hq q e with e1 | e1
  · exact h.ap q hq' e1
  · have := h.oS.lt q hq'; omega
/-- sizes, alignments of the first so many -/
def Ty.szs (T : Nat → Ty.TyV) (k : Nat) : List Int := (List.range k).map fun j => (Ty.lie T j).size
def Ty.als (T : Nat → Ty.TyV) (k : Nat) : List Int := (List.range k).map fun j => (Ty.lie T j).align
theorem Ty.szs_succ (T : Nat → Ty.TyV) (k : Nat) : Ty.szs T (k + 1) = Ty.szs T k ++ [(Ty.lie T k).size] := by unfold Ty.szs; rw [List.range_succ, List.map_append]; rfl
theorem Ty.als_succ (T : Nat → Ty.TyV) (k : Nat) : Ty.als T (k + 1) = Ty.als T k ++ [(Ty.lie T k).align] := by unfold Ty.als; rw [List.range_succ, List.map_append]; rfl
theorem Ty.szs_len (T : Nat → Ty.TyV) (k : Nat) : (Ty.szs T k).length = k := by simp [Ty.szs]
theorem Ty.als_len (T : Nat → Ty.TyV) (k : Nat) : (Ty.als T k).length = k := by simp [Ty.als]
theorem Two.nums {w0 w : World} {vS vA : Value} {T : Nat → Ty.TyV} {k : Nat} (h : Two w0 w vS vA (Ty.szs T k) (Ty.als T k)) : ∃ sa sc aa ac, vS = .slice sa k sc ∧ vA = .slice aa k ac ∧ NumIn w.heap.size w sa k sc (fun j => (Ty.lie T j).size) ∧ NumIn w.heap.size w aa k ac (fun j => (Ty.lie T j).align) := by
  obtain ⟨sa, sc, e1, h1⟩ := h.oS.numIn (M := fun j => (Ty.lie T j).size) (Ty.szs_len T k) (fun i hi => by simp [Ty.szs, List.getD_eq_getElem?_getD, hi])
  obtain ⟨aa, ac, e2, h2⟩ := h.oA.numIn (M := fun j => (Ty.lie T j).align) (Ty.als_len T k) (fun i hi => by simp [Ty.als, List.getD_eq_getElem?_getD, hi])
  exact ⟨sa, sc, aa, ac, e1, e2, h1, h2⟩
set_option maxRecDepth 100000 in
set_option maxHeartbeats 8000000 in
theorem rlaid_any {N : Nat} {w : World} {T : Nat → Ty.TyV} {n m : Nat} {a : Option Addr} {c : Nat} (h : TysIn N w a m c T) (hm : m ≤ 64) (hF : Ty.Fine T n m) :
    Calls Try.prog 57 #[.slice a m c] w fun e w' => ∃ vS vA, e = .returned (.tuple #[vS, vA]) ∧ Two w w' vS vA (Ty.szs T m) (Ty.als T m) := by
  have hle := h.le
  have hmx := h.max
  unfold maxLen at hmx
  have hm' : (m : Int) ≤ 64 := by omega
  have HT : Hid (TysIn N w a m c T) := h
  have HF : Hid (Ty.Fine T n m) := hF
  clear h hF
  go_enter Try.func57, Try.ntmps57
  go_wp2_with fail
  go_loopw [4, 5, 6] (fun vS vA ix wr => ∃ k : Nat, ix = .int .i64 k ∧ k ≤ m ∧ Two w wr vS vA (Ty.szs T k) (Ty.als T k)) (fun _ _ ix _ => m - (intOf ix).toNat)
  case atStart => exact ⟨0, rfl, Nat.zero_le _, Two.nil w⟩
  case round =>
    obtain ⟨k, rfl, hk, h2⟩ := hrel
    have H2 : Hid (Two w wr u4 u5 (Ty.szs T k) (Ty.als T k)) := h2
    obtain ⟨sa, sc, aa, ac, hu4, hu5, hS, hA⟩ := h2.nums
    have hsz := h2.gr.size
    by_cases hkm : k < m
    · have hkm' : (k : Int) < m := by omega
      obtain ⟨b, off, fa, fc, rfl, hb, hty⟩ := (HT.out.grow h2.gr).at hkm
      have hlay := rlay_any hty.f hS hA (HF.out k hkm).1 (HF.out.mono (by omega)).good
      rw [← Ty.lie_eq (HF.out k hkm).1] at hlay
      have c0 := hty.c0
      have c1 := hty.c1
      have c2 := hty.c2
      have c3 := hty.c3
      have HS1 : Hid (Ty.szs T (k + 1) = Ty.szs T k ++ [(Ty.lie T k).size]) := Ty.szs_succ T k
      have HA1 : Hid (Ty.als T (k + 1) = Ty.als T k ++ [(Ty.lie T k).align]) := Ty.als_succ T k
      have HL : Hid (Calls Try.prog 46 #[.agg #[.int .i64 (T k).kind, .int .i64 (T k).elem, .int .i64 (T k).n, .slice fa (T k).nf fc], .slice sa k sc, .slice aa k ac] wr fun e w' => e = .returned (.tuple #[.int .i64 (Ty.lie T k).size, .int .i64 (Ty.lie T k).align]) ∧ wr.grownBy w' none) := hlay
      have l1 : (Ty.szs T k).length ≤ 2000000 := by rw [Ty.szs_len]; omega
      have l2 : (Ty.als T k).length ≤ 2000000 := by rw [Ty.als_len]; omega
      subst hu4 hu5
      clear h2 hS hA hty hlay
      generalize (Ty.lie T k).size = S at *
      generalize (Ty.lie T k).align = A at *
      generalize T k = x at *
      go_wp2_with (first
        | (go_at_call 46; refine HL.out.mono ?_; rintro e w3 ⟨rfl, hg3⟩; have H3 : Hid (Two w w3 (.slice sa k sc) (.slice aa k ac) (Ty.szs T k) (Ty.als T k)) := H2.out.grow hg3; have hs3 := hg3.size; clear hg3)
        | (at_builtin; refine wp_appY1 rfl _ _ rfl w.heap.size (.slice sa k sc) (Ty.szs T k) S rfl H3.out.oS rfl (by simp) l1 (by omega) ?_; intro v4 w4 ho4 hg4 hq4; have H4 : Hid (Two w w4 v4 (.slice aa k ac) (Ty.szs T k ++ [S]) (Ty.als T k)) := H3.out.putS ho4 hg4 hq4; have hs4 := hg4.size; clear ho4 hg4 hq4)
        | (at_builtin; refine wp_appY1 rfl _ _ rfl w.heap.size (.slice aa k ac) (Ty.als T k) A rfl H4.out.oA rfl (by simp) l2 (by omega) ?_; intro v5 w5 ho5 hg5 hq5; have H5 : Hid (Two w w5 v4 v5 (Ty.szs T k ++ [S]) (Ty.als T k ++ [A])) := H4.out.putA ho5 hg5 hq5; clear ho5 hg5 hq5))
      go_roundw
      case rel => exact ⟨k + 1, by go_num, by omega, by rw [HS1.out, HA1.out]; exact H5.out⟩
      case measure => simp [intOf]; omega
    · obtain rfl : k = m := by omega
      clear h2 hS hA hu4 hu5
      go_wp2
      go_ret2
      exact ⟨_, _, rfl, H2.out⟩
/-- what Lay tells -/
def LayR (T : Nat → Ty.TyV) (n : Nat) (w : World) (e : Ending) (w' : World) : Prop :=
  w.grownBy w' none ∧ ((Ty.chk T n ≠ 0 ∧ e = .returned (.tuple #[.slice none 0 0, .slice none 0 0, .int .i64 (Ty.chk T n)])) ∨ (Ty.chk T n = 0 ∧ ∃ vS vA, e = .returned (.tuple #[vS, vA, .int .i64 0]) ∧ Two w w' vS vA (Ty.szs T n) (Ty.als T n)))
theorem Ty.chk_zero {T : Nat → Ty.TyV} {n : Nat} (h64 : n ≤ 64) (hF : Ty.Fine T n n) : Ty.chk T n = 0 := by
  unfold Ty.chk
  rw [if_pos (Ty.tabB_iff.2 ⟨h64, fun i hi => (hF i hi).1⟩), if_pos (fun i hi => (hF i hi).2)]
theorem Ty.chk_seventy {T : Nat → Ty.TyV} {n : Nat} (h : ¬ (n ≤ 64 ∧ ∀ i, i < n → Ty.okB (T i) i n = true)) : Ty.chk T n = 70 := Ty.chk_form (by
  cases hh : Ty.tabB T n
  · rfl
  · exact absurd (Ty.tabB_iff.1 hh) h)
theorem Ty.chk_71 {T : Nat → Ty.TyV} {n k : Nat} (h64 : n ≤ 64) (ho : ∀ i, i < n → Ty.okB (T i) i n = true) (hk : k < n) (hl : 65536 < (Ty.lie T k).size) : Ty.chk T n = 71 := by
  unfold Ty.chk
  rw [if_pos (Ty.tabB_iff.2 ⟨h64, ho⟩), if_neg (fun h => by have := h k hk; omega)]
set_option maxRecDepth 100000 in
set_option maxHeartbeats 8000000 in
theorem rLay_any {N : Nat} {w : World} {T : Nat → Ty.TyV} {n : Nat} {a : Option Addr} {c : Nat} (h : TysIn N w a n c T) :
    Calls Try.prog 32 #[.slice a n c] w fun e w' => LayR T n w e w' := by
  have hle := h.le
  have hmx := h.max
  unfold maxLen at hmx
  by_cases h64 : n ≤ 64
  · have hn' : (n : Int) ≤ 64 := by omega
    have HT : Hid (TysIn N w a n c T) := h
    clear h
    go_enter Try.func32, Try.ntmps32
    go_wp2_with fail
    go_loopw [5] (fun ix wr => ∃ k : Nat, ix = .int .i64 k ∧ k ≤ n ∧ (∀ j, j < k → Ty.okB (T j) j n = true) ∧ w.grownBy wr none) (fun ix _ => n - (intOf ix).toNat)
    case atStart => exact ⟨0, rfl, Nat.zero_le _, fun j hj => by omega, World.grownBy.refl _ _⟩
    case round =>
      obtain ⟨k, rfl, hk, hj, hg⟩ := hrel
      have HJ : Hid (∀ j, j < k → Ty.okB (T j) j n = true) := hj
      have HG : Hid (w.grownBy wr none) := hg
      clear hj hg
      by_cases hkn : k < n
      · have hkn' : (k : Int) < n := by omega
        obtain ⟨b, off, fa, fc, rfl, hb, hc⟩ := (HT.out.grow HG.out).at hkn
        have c0 := hc.c0
        have c1 := hc.c1
        have c2 := hc.c2
        have c3 := hc.c3
        have HC : Hid (Calls Try.prog 45 #[.agg #[.int .i64 (T k).kind, .int .i64 (T k).elem, .int .i64 (T k).n, .slice fa (T k).nf fc], .int .i64 k, .int .i64 n] wr fun e w' => e = .returned (.bool (Ty.okB (T k) k n)) ∧ wr.grownBy w' none) := rentry_any hc.f k n
        clear hc
        cases hm : Ty.okB (T k) k n
        · have HE : Hid (Ty.chk T n = 70) := Ty.chk_seventy (fun h => by rw [h.2 k hkn] at hm; cases hm)
          rw [hm] at HC
          clear hm
          generalize T k = x at c0 c1 c2 c3 HC
          go_wp2_with (go_at_call 45; refine HC.out.mono ?_; rintro e w3 ⟨rfl, hg3⟩)
          refine bodyPost_ret (by simp [results, Try.results32, go_sem]; try rfl) rfl ?_
          refine ⟨grown_trans HG.out hg3, .inl ⟨by rw [HE.out]; decide, ?_⟩⟩
          rw [HE.out]
        · have HJ2 : Hid (∀ j, j < k + 1 → Ty.okB (T j) j n = true) := fun j hj' => by
            by_cases e : j = k
            · subst e; exact hm
            · exact HJ.out j (by omega)
          rw [hm] at HC
          clear hm
          generalize T k = x at c0 c1 c2 c3 HC
          go_wp2_with (go_at_call 45; refine HC.out.mono ?_; rintro e w3 ⟨rfl, hg3⟩)
          go_roundw
          case rel => exact ⟨k + 1, by go_num, by omega, HJ2.out, grown_trans HG.out hg3⟩
          case measure => simp [intOf]; omega
      · obtain rfl : k = n := by omega
        obtain ⟨wo, hwo⟩ : ∃ wo, wo = wr := ⟨_, rfl⟩
        rw [← hwo] at HG ⊢
        clear hwo
        go_wp2_with fail
        go_loopw [6, 7, 8] (fun vS vA ix wr => ∃ q : Nat, ix = .int .i64 q ∧ q ≤ k ∧ Ty.Fine T k q ∧ Two w wr vS vA (Ty.szs T q) (Ty.als T q)) (fun _ _ ix _ => k - (intOf ix).toNat)
        case atStart => exact ⟨0, rfl, Nat.zero_le _, (fun j hj => by omega), (Two.nil w).grow HG.out⟩
        case round =>
          obtain ⟨q, rfl, hq, hF, h2⟩ := hrel
          have H2 : Hid (Two w wr u6 u7 (Ty.szs T q) (Ty.als T q)) := h2
          have HF : Hid (Ty.Fine T k q) := hF
          obtain ⟨sa, sc, aa, ac, hu6, hu7, hS, hA⟩ := h2.nums
          have hsz := h2.gr.size
          by_cases hqn : q < k
          · have hqn' : (q : Int) < k := by omega
            obtain ⟨b, off, fa, fc, rfl, hb, hty⟩ := (HT.out.grow h2.gr).at hqn
            have hoq := HJ.out q hqn
            have hlay := rlay_any hty.f hS hA hoq hF.good
            rw [← Ty.lie_eq hoq] at hlay
            have c0 := hty.c0
            have c1 := hty.c1
            have c2 := hty.c2
            have c3 := hty.c3
            have HS1 : Hid (Ty.szs T (q + 1) = Ty.szs T q ++ [(Ty.lie T q).size]) := Ty.szs_succ T q
            have HA1 : Hid (Ty.als T (q + 1) = Ty.als T q ++ [(Ty.lie T q).align]) := Ty.als_succ T q
            have HL : Hid (Calls Try.prog 46 #[.agg #[.int .i64 (T q).kind, .int .i64 (T q).elem, .int .i64 (T q).n, .slice fa (T q).nf fc], .slice sa q sc, .slice aa q ac] wr fun e w' => e = .returned (.tuple #[.int .i64 (Ty.lie T q).size, .int .i64 (Ty.lie T q).align]) ∧ wr.grownBy w' none) := hlay
            have l1 : (Ty.szs T q).length ≤ 2000000 := by rw [Ty.szs_len]; omega
            have l2 : (Ty.als T q).length ≤ 2000000 := by rw [Ty.als_len]; omega
            by_cases hlg : 65536 < (Ty.lie T q).size
            · have HE : Hid (Ty.chk T k = 71) := Ty.chk_71 h64 HJ.out hqn hlg
              subst hu6 hu7
              clear h2 hS hA hty hlay hF hoq
              generalize (Ty.lie T q).size = S at *
              generalize (Ty.lie T q).align = A at *
              generalize T q = x at c0 c1 c2 c3 HL
              go_wp2_with (go_at_call 46; refine HL.out.mono ?_; rintro e w3 ⟨rfl, hg3⟩; have H3 : Hid (Two w w3 (.slice sa q sc) (.slice aa q ac) (Ty.szs T q) (Ty.als T q)) := H2.out.grow hg3; clear hg3)
              refine bodyPost_ret (by simp [results, Try.results32, go_sem]; try rfl) rfl ?_
              refine ⟨H3.out.gr, .inl ⟨by rw [HE.out]; decide, ?_⟩⟩
              rw [HE.out]
            · have HF2 : Hid (Ty.Fine T k (q + 1)) := fun j hj => by
                by_cases e : j = q
                · subst e; exact ⟨hoq, by omega⟩
                · exact HF.out j (by omega)
              subst hu6 hu7
              clear h2 hS hA hty hlay hF hoq
              generalize (Ty.lie T q).size = S at *
              generalize (Ty.lie T q).align = A at *
              generalize T q = x at c0 c1 c2 c3 HL
              go_wp2_with (first
                | (go_at_call 46; refine HL.out.mono ?_; rintro e w3 ⟨rfl, hg3⟩; have H3 : Hid (Two w w3 (.slice sa q sc) (.slice aa q ac) (Ty.szs T q) (Ty.als T q)) := H2.out.grow hg3; have hs3 := hg3.size; clear hg3)
                | (at_builtin; refine wp_appY1 rfl _ _ rfl w.heap.size (.slice sa q sc) (Ty.szs T q) S rfl H3.out.oS rfl (by simp) l1 (by omega) ?_; intro v4 w4 ho4 hg4 hq4; have H4 : Hid (Two w w4 v4 (.slice aa q ac) (Ty.szs T q ++ [S]) (Ty.als T q)) := H3.out.putS ho4 hg4 hq4; have hs4 := hg4.size; clear ho4 hg4 hq4)
                | (at_builtin; refine wp_appY1 rfl _ _ rfl w.heap.size (.slice aa q ac) (Ty.als T q) A rfl H4.out.oA rfl (by simp) l2 (by omega) ?_; intro v5 w5 ho5 hg5 hq5; have H5 : Hid (Two w w5 v4 v5 (Ty.szs T q ++ [S]) (Ty.als T q ++ [A])) := H4.out.putA ho5 hg5 hq5; clear ho5 hg5 hq5))
              go_roundw
              case rel => exact ⟨q + 1, by go_num, by omega, HF2.out, by rw [HS1.out, HA1.out]; exact H5.out⟩
              case measure => simp [intOf]; omega
          · obtain rfl : q = k := by omega
            clear h2 hS hA hu6 hu7 hF
            go_wp2
            refine bodyPost_ret (by simp [results, Try.results32, go_sem]; try rfl) rfl ?_
            exact ⟨H2.out.gr, .inr ⟨Ty.chk_zero h64 HF.out, _, _, rfl, H2.out⟩⟩
  · have h64' : (64 : Int) < n := by omega
    have HE : Hid (Ty.chk T n = 70) := Ty.chk_seventy (fun h => h64 h.1)
    clear h
    go_enter Try.func32, Try.ntmps32
    go_wp2
    refine bodyPost_ret (by simp [results, Try.results32, go_sem]; try rfl) rfl ?_
    refine ⟨World.grownBy.refl _ _, .inl ⟨by rw [HE.out]; decide, ?_⟩⟩
    rw [HE.out]
theorem rCheck_any {N : Nat} {w : World} {T : Nat → Ty.TyV} {n : Nat} {a : Option Addr} {c : Nat} (h : TysIn N w a n c T) :
    Calls Try.prog 22 #[.slice a n c] w fun e w' => e = .returned (.int .i64 (Ty.chk T n)) ∧ w.grownBy w' none := by
  have HC : Hid (Calls Try.prog 32 #[.slice a n c] w fun e w' => ∃ v1 v2, e = .returned (.tuple #[v1, v2, .int .i64 (Ty.chk T n)]) ∧ w.grownBy w' none) := (rLay_any h).mono (by
    rintro e w' ⟨hg, ⟨h1, rfl⟩ | ⟨h1, v1, v2, rfl, _⟩⟩
    · exact ⟨_, _, rfl, hg⟩
    · exact ⟨v1, v2, by rw [h1], hg⟩)
  generalize Ty.chk T n = Z at *
  clear h
  go_enter Try.func22, Try.ntmps22
  go_wp2_with (go_at_call 32; refine HC.out.mono ?_; rintro e w3 ⟨v1, v2, rfl, hg3⟩)
  go_ret
  exact ⟨rfl, hg3⟩
theorem TysIn.cut {N : Nat} {w : World} {a : Option Addr} {n c : Nat} {T : Nat → Ty.TyV} (h : TysIn N w a n c T) {m : Nat} (hm : m ≤ n) : TysIn N w a m c T :=
  ⟨Nat.le_trans hm h.le, h.max, by
    rcases h.lie with h0 | ⟨b, off, e, hb, hi⟩
    · exact .inl (by omega)
    · exact .inr ⟨b, off, e, hb, fun i hi' => hi i (by omega)⟩⟩
/-- where it stands ahead of field k, on the way to field f -/
def Ty.upTo (x : Ty.TyV) (L : Nat → Ty.Li) (f k : Nat) : Int := if k ≤ f then Ty.en x L k else Ty.bg x L f
set_option maxRecDepth 100000 in
set_option maxHeartbeats 8000000 in
theorem rOffset_gen {N : Nat} {w : World} {T : Nat → Ty.TyV} {n n' : Nat} {a : Option Addr} {c : Nat} (h : TysIn N w a n c T) (hN : N ≤ w.heap.size) (h64 : n ≤ 64) (hF : Ty.Fine T n' n) {i f : Nat} (hi : i < n) (hf : f < (T i).nf) :
    Calls Try.prog 47 #[.slice a n c, .int .i64 i, .int .i64 f] w fun e w' => e = .returned (.int .i64 (Ty.bg (T i) (Ty.lie T) f)) ∧ w.grownBy w' none := by
  have hle := h.le
  have hmx := h.max
  unfold maxLen at hmx
  have hi' : (i : Int) < n := by omega
  have hok := (hF i hi).1
  obtain ⟨h16, hfl⟩ := Ty.flds_in hok
  have HL : Hid (Calls Try.prog 57 #[.slice a i c] w fun e w' => ∃ vS vA, e = .returned (.tuple #[vS, vA]) ∧ Two w w' vS vA (Ty.szs T i) (Ty.als T i)) := rlaid_any (h.cut (Nat.le_of_lt hi)) (by omega) (hF.mono (Nat.le_of_lt hi))
  obtain ⟨b, off, fa, fc, rfl, hb, hty⟩ := h.at hi
  have HTy : Hid (TyC N w b (off + i * 4) (T i) fa fc) := hty
  have HFi : Hid (∀ k, k < (T i).nf → 0 ≤ (T i).F k ∧ (T i).F k < i) := hfl
  have HGf : Hid (∀ k, k < (T i).nf → Ty.Good (Ty.fl (T i) (Ty.lie T) k) ∧ (Ty.fl (T i) (Ty.lie T) k).size ≤ 65536) := fun k hk => hF.good _ (by have := hfl k hk; omega)
  have hfl1 := hty.f.le
  have hfm := hty.f.max
  unfold maxLen at hfm
  obtain ⟨R, hR⟩ : ∃ R, R = Ty.bg (T i) (Ty.lie T) f := ⟨_, rfl⟩
  rw [← hR]
  have HR : Hid (R = Ty.bg (T i) (Ty.lie T) f) := hR
  clear h hF hok hfl hty hR
  generalize T i = x at *
  go_enter Try.func47, Try.ntmps47
  go_wp2_with (go_at_call 57; refine HL.out.mono ?_; rintro e w3 ⟨vS, vA, rfl, h3⟩; have H3 : Hid (Two w w3 vS vA (Ty.szs T i) (Ty.als T i)) := h3; obtain ⟨sa, sc, aa, ac, hvS, hvA, hS, hA⟩ := h3.nums; have HS : Hid (NumIn w3.heap.size w3 sa i sc (fun j => (Ty.lie T j).size)) := hS; have HA : Hid (NumIn w3.heap.size w3 aa i ac (fun j => (Ty.lie T j).align)) := hA; subst hvS hvA; clear h3 hS hA)
  have HG3 : Hid (w.grownBy w3 none) := H3.out.gr
  have hT3 := HTy.out.ch (l := []) (Ch.of HG3.out) (by simp) (by simp)
  have HT3 : Hid (TyC N w3 b (off + i * 4) x fa fc) := hT3
  clear hT3
  go_loopw [9, 10] (fun z ix wr => ∃ k : Nat, ix = .int .i64 k ∧ z = .int .i64 (Ty.upTo x (Ty.lie T) f k) ∧ k ≤ f + 1 ∧ wr = w3) (fun _ ix _ => f + 1 - (intOf ix).toNat)
  case atStart => exact ⟨0, rfl, by unfold Ty.upTo; rw [if_pos (Nat.zero_le _)]; rfl, Nat.zero_le _, by first | rfl | trivial⟩
  case round =>
    obtain ⟨k, rfl, rfl, hk, hw⟩ := hrel
    subst hw
    by_cases hkf : k ≤ f
    · have hkf' : (k : Int) ≤ f := by omega
      have hkn : k < x.nf := by omega
      have hkn' : (k : Int) < x.nf := by omega
      have c3 := HT3.out.c3
      obtain ⟨fb, fo, rfl, hcf⟩ := HT3.out.f.val hkn
      have hfk := HFi.out k hkn
      obtain ⟨j, hj⟩ : ∃ j : Nat, x.F k = j := ⟨(x.F k).toNat, by omega⟩
      have hji : j < i := by omega
      have hji' : (j : Int) < i := by omega
      obtain ⟨b1, o1, rfl, c1⟩ := HS.out.val hji
      obtain ⟨b2, o2, rfl, c2⟩ := HA.out.val hji
      rw [hj] at hcf
      have hfe : Ty.fl x (Ty.lie T) k = Ty.lie T j := by unfold Ty.fl; rw [hj]; rfl
      obtain ⟨hgd, hs6⟩ := HGf.out k hkn
      have hen := Ty.en_spec (k := k) fun q hq => HGf.out q (by omega)
      rw [hfe] at hgd hs6
      have hs0 : 0 ≤ (Ty.lie T j).size := by have := hgd.w0; have := hgd.ws; omega
      have ha := hgd.al
      have hu : Ty.upTo x (Ty.lie T) f k = Ty.en x (Ty.lie T) k := by unfold Ty.upTo; rw [if_pos hkf]
      rw [hu]
      by_cases hlt : k < f
      · have hlt' : (k : Int) < f := by omega
        have HE : Hid (Ty.upTo x (Ty.lie T) f (k + 1) = Ty.up (Ty.en x (Ty.lie T) k) (Ty.lie T j).align + (Ty.lie T j).size) := by show _ = _; unfold Ty.upTo; rw [if_pos (by omega), Ty.en, hfe]
        clear hgd hfe hj hfk hu
        generalize Ty.en x (Ty.lie T) k = E at *
        generalize (Ty.lie T j).size = S at *
        generalize (Ty.lie T j).align = A at *
        rcases ha with rfl | rfl | rfl | rfl
        all_goals (
          go_wp2
          have hE := HE.out
          unfold Ty.up at hE
          go_roundw
          case rel => exact ⟨k + 1, by go_num, by first | (rw [hE]; done) | (rw [hE]; congr 1; done) | (rw [hE]; congr 1; omega), by omega, by first | rfl | trivial⟩
          case measure => first | (simp [intOf]; done) | (simp [intOf]; omega))
      · obtain rfl : k = f := by omega
        have hlt' : ¬ (k : Int) < k := by omega
        have HE : Hid (Ty.upTo x (Ty.lie T) k (k + 1) = Ty.up (Ty.en x (Ty.lie T) k) (Ty.lie T j).align) := by show _ = _; unfold Ty.upTo; rw [if_neg (by omega), Ty.bg, hfe]
        clear hgd hfe hj hfk hu
        generalize Ty.en x (Ty.lie T) k = E at *
        generalize (Ty.lie T j).size = S at *
        generalize (Ty.lie T j).align = A at *
        rcases ha with rfl | rfl | rfl | rfl
        all_goals (
          go_wp2
          have hE := HE.out
          unfold Ty.up at hE
          go_roundw
          case rel => exact ⟨k + 1, by go_num, by first | (rw [hE]; done) | (rw [hE]; congr 1; done) | (rw [hE]; congr 1; omega), by omega, by first | rfl | trivial⟩
          case measure => first | (simp [intOf]; done) | (simp [intOf]; omega))
    · have hkf' : ¬ (k : Int) ≤ f := by omega
      have hu : Ty.upTo x (Ty.lie T) f k = R := by rw [HR.out]; unfold Ty.upTo; rw [if_neg hkf]
      rw [hu]
      clear hu
      go_wp2
      go_ret
      exact ⟨rfl, HG3.out⟩
/-- one number appended, in a region that draws -/
theorem stepY1d {ops : Array Oper} {o : Oper} {a : Act} {Q : Exit → Act → World → Prop} {K : Act → World → Prop} {E : Prop} {W : World} (hgd : o.guard = none) (s x : Operand)
    (ho : o.op = .call { callee := .builtin .append, args := #[s, x], argTypes := #[24, 24] }) (base : Nat) (v : Value) (l : List Int) (X : Int) (hs : a.eval s = v) (hown : OwnZ W base v l)
    (hx : a.eval x = .slice (some ⟨W.heap.size, 0, none⟩) 1 1) (hl : l.length ≤ 2000000) (hb : base ≤ W.heap.size)
    (h : ∀ v' w', OwnZ w' base v' (l ++ [X]) → W.grownBy w' v.ownBlock → (∀ q, v'.ownBlock = some q → v.ownBlock = some q ∨ W.heap.size ≤ q) → K (a.put o.dst v') w') :
    if Region.wanted o (yielded ops a.tmps) = true then Oper.wp Try.prog o a (W.alloc (Obj.cells #[.int .i64 X] 3)).drew K Q else E := by
  have hw : Region.wanted o (yielded ops a.tmps) = true := by simp [Region.wanted, hgd]
  rw [if_pos hw]
  obtain ⟨i, hi, hz0, hz1, hz2⟩ := info_parts info_int
  have hgA : W.grownBy (W.alloc (Obj.cells #[.int .i64 X] 3)).drew none := grown_drew (World.grownBy_alloc _ _ _)
  have hl1 : OwnZ (W.alloc (Obj.cells #[.int .i64 X] 3)).drew W.heap.size (.slice (some ⟨W.heap.size, 0, none⟩) 1 1) [X] := OwnZ.grow (World.ownsRow_lit (base := W.heap.size) (e := 3) (size := 1) W #[.int .i64 X] 1 (Nat.le_refl _) (by decide) rfl) (grown_drew (World.grownBy.refl _ _))
  have hn : ∀ j u, ([X].map (Value.int .i64))[j]? = some u → (W.alloc (Obj.cells #[.int .i64 X] 3)).drew.cell? ((⟨W.heap.size, 0, none⟩ : Addr).add j) = some u := fun j y hj => World.ownsRow.cells hl1 rfl j y hj
  have hown' := hown.grow hgA
  have hsz : (W.alloc (Obj.cells #[.int .i64 X] 3)).drew.heap.size = W.heap.size + 1 := by simp
  obtain ⟨v', w', hr, h2, h3, h4⟩ := run_append_own (P := Try.prog) (W.alloc (Obj.cells #[.int .i64 X] 3)).drew base 24 o.type 3 i (.int .i64 0) 1 8 Try.underlying24 hi hz0 hz1 hz2 rfl (by decide) v l.length (l.map (Value.int .i64)) hown' ⟨W.heap.size, 0, none⟩ 1 1 ([X].map (Value.int .i64)) (by simp) hn
    (by intro y hy; obtain ⟨z, _, rfl⟩ := List.mem_map.mp hy; rfl) (by unfold maxLen; omega) (by omega) (by omega)
  have hbk := app_block hown' ⟨W.heap.size, 0, none⟩ [X] 1 (by simp) hn hl (by simp) o.type hr
  unfold Oper.wp execOp
  simp only [ho, resolve, invoke, builtin, Sem.run_bind, Sem.run_pure, Result.andThen_ok, List.map_toArray, List.map_cons, List.map_nil, hs, hx, hr]
  refine h v' w' ?_ (grown_trans (grown_noneR _ hgA) h3) (fun q hv => ?_)
  · unfold OwnZ
    rw [List.length_append, List.map_append]
    exact h2
  · rcases hbk with e | e
    · exact .inl (e ▸ hv)
    · rw [e, hsz] at hv; injection hv with hv; exact .inr (by omega)
/-- the row of a lot -/
structure Lt where
  ka : Option Addr
  n : Nat
  kc : Nat
  oa : Option Addr
  oc : Nat
  arr : Bool
def cells3 (e : Lt) : List Value := [.slice e.ka e.n e.kc, .slice e.oa e.n e.oc, .bool e.arr]
def OwnLt (w : World) (base : Nat) (v : Value) (l : List Lt) : Prop := w.ownsRow base 81 3 v l.length (l.flatMap cells3)
theorem info_lot : (Try.prog.info? 81).map (fun i => (i.zero, i.size, i.bytes)) = some (some (.agg #[.slice none 0 0, .slice none 0 0, .bool false]), 3, 56) := by kernel_rfl
theorem flat3_at : ∀ (l : List Lt) (i k : Nat) (hi : i < l.length), k < 3 → (l.flatMap cells3)[i * 3 + k]? = (cells3 l[i])[k]?
  | [], i, k, hi, _ => by simp at hi
  | v :: l, 0, k, _, hk => by
    rw [List.flatMap_cons, List.getElem?_append_left (by simp [cells3]; omega)]
    simp
  | v :: l, i + 1, k, hi, hk => by
    have h4 : (cells3 v).length = 3 := rfl
    rw [List.flatMap_cons, List.getElem?_append_right (by rw [h4]; omega), h4, show (i + 1) * 3 + k - 3 = i * 3 + k by omega]
    exact flat3_at l i k (by simpa using hi) hk
theorem OwnLt.grow {w w' : World} {base : Nat} {v : Value} {l : List Lt} (h : OwnLt w base v l) (hg : w.grownBy w' none) : OwnLt w' base v l := World.ownsRow.kept h hg (Classical.em _)
theorem OwnLt.base {w : World} {base : Nat} {v : Value} {l : List Lt} (h : OwnLt w base v l) : ∀ k, v.ownBlock = some k → base ≤ k := fun k hk => (World.ownsRow.lt h k hk).1
theorem OwnLt.apart {w : World} {base b : Nat} {v : Value} {l : List Lt} (h : OwnLt w base v l) (hb : IntB w b) : v.ownBlock ≠ some b := by
  intro e
  rcases h.2 with ⟨rfl, _⟩ | ⟨g, c, cur, rfl, _, hg, _⟩
  · cases e
  · simp [Value.ownBlock] at e
    subst e
    obtain ⟨cur', h'⟩ := hb
    rw [hg] at h'
    simp at h'
/-- one lot more -/
theorem wp_appL {ops : Array Oper} {rest : List Oper} {o : Oper} {a : Act} {Q : Exit → Act → World → Prop} {W : World} (hgd : o.guard = none) (s x : Operand)
    (ho : o.op = .call { callee := .builtin .append, args := #[s, x], argTypes := #[82, 82] }) (base : Nat) (v : Value) (l : List Lt) (u : Lt) (hs : a.eval s = v) (hown : OwnLt W base v l)
    {nb : Nat} (hx : a.eval x = .slice (some ⟨nb, 0, none⟩) 1 1) (hnb : nb = W.heap.size) (hl : l.length ≤ 100000) (hb : base ≤ W.heap.size)
    (h : ∀ v' w', OwnLt w' base v' (l ++ [u]) → W.grownBy w' v.ownBlock → wpList Try.prog ops Q rest (a.put o.dst v') w') : wpList Try.prog ops Q (o :: rest) a (W.alloc (Obj.cells #[.slice u.ka u.n u.kc, .slice u.oa u.n u.oc, .bool u.arr] 81)) := by
  subst hnb
  obtain ⟨i, hi, hz0, hz1, hz2⟩ := info_parts info_lot
  refine wpList_append_own _ hgd s x 82 ho base 81 i _ 3 56 Try.underlying82 hi hz0 hz1 hz2 rfl (by decide) v l.length (l.flatMap cells3) hs (World.ownsRow.alloc hown _) ⟨W.heap.size, 0, none⟩ 1 1 (cells3 u) hx rfl
    (by intro j y hj; rw [addr_add, Nat.zero_add, cells_new _ _ rfl]; rw [← hj]; simp [cells3]) (by intro y hy; simp [cells3] at hy; rcases hy with rfl | rfl | rfl <;> rfl) (by unfold maxLen; omega) (by omega) (by simp; omega) ?_
  intro v' w2 ho2 hg2 _
  refine h v' w2 ?_ (grown_trans (grown_noneR _ (World.grownBy_alloc _ _ _)) hg2)
  unfold OwnLt
  rw [List.length_append, List.flatMap_append]
  simpa using ho2
/-- a lot's words: no more than seventeen -/
def Ty.w17 (T : Nat → Ty.TyV) (i : Nat) : List (Int × Int) := (Ty.wk T i).take 17
def atF (l : List Int) (q : Nat) : Int := l.getD q 0
/-- what is told of a lot -/
structure LtOk (w : World) (e : Lt) (l : List (Int × Int)) (ar : Bool) : Prop where
  n : e.n = l.length
  arr : e.arr = ar
  k : NumIn w.heap.size w e.ka e.n e.kc (atF (Ty.k1 l))
  o : NumIn w.heap.size w e.oa e.n e.oc (atF (Ty.k2 l))
  bk : ∀ b q, e.ka = some ⟨b, q, none⟩ → IntB w b
  bo : ∀ b q, e.oa = some ⟨b, q, none⟩ → IntB w b
theorem LtOk.ch {w w' : World} {e : Lt} {l : List (Int × Int)} {ar : Bool} {L : List Nat} (h : LtOk w e l ar) (hg : Ch w w' L) (hL : ∀ b, IntB w b → b ∉ L) : LtOk w' e l ar :=
  ⟨h.n, h.arr, (h.k.ch2 hg (fun b q e => hL b (h.bk b q e))).up hg.size, (h.o.ch2 hg (fun b q e => hL b (h.bo b q e))).up hg.size, fun b q e => (h.bk b q e).ch hg (hL b (h.bk b q e)), fun b q e => (h.bo b q e).ch hg (hL b (h.bo b q e))⟩
theorem LtOk.grow {w w' : World} {e : Lt} {l : List (Int × Int)} {ar : Bool} (h : LtOk w e l ar) (hg : w.grownBy w' none) : LtOk w' e l ar := h.ch (L := []) (Ch.of hg) (by simp)
structure Lts (w wr : World) (T : Nat → Ty.TyV) (k : Nat) (v : Value) (l : List Lt) : Prop where
  own : OwnLt wr w.heap.size v l
  len : l.length = k
  ent : ∀ i (hi : i < l.length), LtOk wr l[i] (Ty.w17 T i) (Ty.lie T i).arr
  gr : w.grownBy wr none
theorem Lts.grow {w wr w' : World} {T : Nat → Ty.TyV} {k : Nat} {v : Value} {l : List Lt} (h : Lts w wr T k v l) (hg : wr.grownBy w' none) : Lts w w' T k v l :=
  ⟨h.own.grow hg, h.len, fun i hi => (h.ent i hi).grow hg, grown_trans h.gr hg⟩
theorem Lts.slice {w wr : World} {T : Nat → Ty.TyV} {k : Nat} {v : Value} {l : List Lt} (h : Lts w wr T k v l) : ∃ a c, v = .slice a k c ∧ k ≤ c ∧ c ≤ maxLen ∧ ∀ i (hi : i < k), ∃ b, a = some ⟨b, 0, none⟩ ∧ ∀ q, q < 3 → wr.cell? ⟨b, i * 3 + q, none⟩ = (cells3 (l[i]'(by rw [h.len]; exact hi)))[q]? := by
  have hl := h.len
  subst hl
  rcases h.own.2 with ⟨rfl, h0⟩ | ⟨g, c, cur, rfl, hb, hg, hc, hcm, _⟩
  · exact ⟨none, 0, by rw [h0], by omega, Nat.zero_le _, fun i hi => by omega⟩
  · exact ⟨_, c, rfl, hc, hcm, fun i hi => ⟨g, rfl, fun q hq => (World.ownsRow.cellAt h.own (i * 3 + q) (by omega)).trans (flat3_at l i q hi hq)⟩⟩
/-- a lot that is being made, in block B -/
structure Lx (wb wr : World) (B : Nat) (vK vO : Value) (ar : Bool) (lK lO : List Int) : Prop where
  blk : wr.heap[B]? = some (.cells #[vK, vO, .bool ar] 81 (0, 0))
  oK : OwnZ wr (B + 1) vK lK
  oO : OwnZ wr (B + 1) vO lO
  ap : ∀ q, vK.ownBlock = some q → vO.ownBlock ≠ some q
  gr : wb.grownBy wr none
  hB : wb.heap.size ≤ B
theorem Lx.lt {wb wr : World} {B : Nat} {vK vO : Value} {ar : Bool} {lK lO : List Int} (h : Lx wb wr B vK vO ar lK lO) : B < wr.heap.size := (Array.getElem?_eq_some_iff.1 h.blk).1
theorem Lx.c0 {wb wr : World} {B : Nat} {vK vO : Value} {ar : Bool} {lK lO : List Int} (h : Lx wb wr B vK vO ar lK lO) : wr.cell? ⟨B, 0, none⟩ = some vK := by simp [World.cell?, h.blk]
theorem Lx.c1 {wb wr : World} {B : Nat} {vK vO : Value} {ar : Bool} {lK lO : List Int} (h : Lx wb wr B vK vO ar lK lO) : wr.cell? ⟨B, 1, none⟩ = some vO := by simp [World.cell?, h.blk]
theorem Lx.c2 {wb wr : World} {B : Nat} {vK vO : Value} {ar : Bool} {lK lO : List Int} (h : Lx wb wr B vK vO ar lK lO) : wr.cell? ⟨B, 2, none⟩ = some (.bool ar) := by simp [World.cell?, h.blk]
theorem Lx.fz {wb wr : World} {B : Nat} {vK vO : Value} {ar : Bool} {lK lO : List Int} (h : Lx wb wr B vK vO ar lK lO) (q : Nat) : wr.frozen? ⟨B, q, none⟩ = false := by simp [World.frozen?, h.blk]
theorem Lx.new (wb : World) : Lx wb (wb.alloc (.cells #[.slice none 0 0, .slice none 0 0, .bool false] 81)) wb.heap.size (.slice none 0 0) (.slice none 0 0) false [] [] :=
  ⟨heap_alloc_new wb _, ownZ_nil _ _, ownZ_nil _ _, (fun q h => by cases h), World.grownBy_alloc _ _ _, Nat.le_refl _⟩
theorem Lx.grow {wb wr w' : World} {B : Nat} {vK vO : Value} {ar : Bool} {lK lO : List Int} (h : Lx wb wr B vK vO ar lK lO) (hg : wr.grownBy w' none) : Lx wb w' B vK vO ar lK lO :=
  ⟨(hg.block B h.lt (by simp)).trans h.blk, h.oK.grow hg, h.oO.grow hg, h.ap, grown_trans h.gr hg, h.hB⟩
theorem setCell_block {w : World} {B q : Nat} {c : Array Value} {t : TypeId} {v : Value} (h : w.heap[B]? = some (.cells c t (0, 0))) : (w.setCell ⟨B, q, none⟩ v).heap[B]? = some (.cells (c.setIfInBounds q v) t (0, 0)) := by
  simp [World.setCell, Array.getElem?_modify, h]
theorem Lx.putA {wb wr : World} {B : Nat} {vK vO : Value} {ar : Bool} {lK lO : List Int} (h : Lx wb wr B vK vO ar lK lO) (b : Bool) : Lx wb (wr.setCell ⟨B, 2, none⟩ (.bool b)) B vK vO b lK lO := by
  have c : Ch wr (wr.setCell ⟨B, 2, none⟩ (.bool b)) [B] := Ch.one (grown_set _ _ _ _) (by simp)
  exact ⟨setCell_block h.blk, h.oK.ch c (fun q hq => by have := h.oK.base q hq; simp; omega), h.oO.ch c (fun q hq => by have := h.oO.base q hq; simp; omega), h.ap, ((Ch.of h.gr).trans c).nil (by simp; exact h.hB), h.hB⟩
theorem Lx.midK {wb wr w1 : World} {B : Nat} {vK vO : Value} {ar : Bool} {lK lO : List Int} (h : Lx wb wr B vK vO ar lK lO) (hg : wr.grownBy w1 vK.ownBlock) : w1.heap[B]? = some (.cells #[vK, vO, .bool ar] 81 (0, 0)) :=
  ((grown_ch hg).block B h.lt (by simp; intro e; have := h.oK.base _ e; omega)).trans h.blk
theorem Lx.midO {wb wr w1 : World} {B : Nat} {vK vO : Value} {ar : Bool} {lK lO : List Int} (h : Lx wb wr B vK vO ar lK lO) (hg : wr.grownBy w1 vO.ownBlock) : w1.heap[B]? = some (.cells #[vK, vO, .bool ar] 81 (0, 0)) :=
  ((grown_ch hg).block B h.lt (by simp; intro e; have := h.oO.base _ e; omega)).trans h.blk
theorem Lx.putK {wb wr w1 : World} {B : Nat} {vK vO vK' : Value} {ar : Bool} {lK lO lK' : List Int} (h : Lx wb wr B vK vO ar lK lO) (ho : OwnZ w1 (B + 1) vK' lK') (hg : wr.grownBy w1 vK.ownBlock) (hq : ∀ q, vK'.ownBlock = some q → vK.ownBlock = some q ∨ wr.heap.size ≤ q) :
    Lx wb (w1.setCell ⟨B, 0, none⟩ vK') B vK' vO ar lK' lO ∧ Ch wr (w1.setCell ⟨B, 0, none⟩ vK') (B :: vK.ownBlock.toList) := by
  have c1 : Ch wr w1 (B :: vK.ownBlock.toList) := (grown_ch hg).mono (fun k _ hk => by simp at hk ⊢; exact .inr hk)
  have c2 : Ch w1 (w1.setCell ⟨B, 0, none⟩ vK') (B :: vK.ownBlock.toList) := Ch.one (grown_set _ _ _ _) (by simp)
  have c0 := c1.trans c2
  refine ⟨⟨setCell_block (h.midK hg), ?_, ?_, ?_, ?_, h.hB⟩, c0⟩
  · exact ho.ch (l := [B]) (Ch.one (grown_set _ _ _ _) (by simp)) (fun q hq' => by have := ho.base q hq'; simp; omega)
  · exact h.oO.ch c0 (fun q hq' hm => by
      simp at hm
      rcases hm with e | e
      · have := h.oO.base q hq'; omega
      · exact h.ap q e hq')
  · intro q hq' e
    rcases hq q hq' with e1 | e1
    · exact h.ap q e1 e
    · have := h.oO.lt q e; omega
  · exact ((Ch.of h.gr).trans c0).nil (fun q hm => by
      simp at hm
      have := h.hB
      rcases hm with e | e
      · omega
      · have := h.oK.base q e; omega)
theorem Lx.putO {wb wr w1 : World} {B : Nat} {vK vO vO' : Value} {ar : Bool} {lK lO lO' : List Int} (h : Lx wb wr B vK vO ar lK lO) (ho : OwnZ w1 (B + 1) vO' lO') (hg : wr.grownBy w1 vO.ownBlock) (hq : ∀ q, vO'.ownBlock = some q → vO.ownBlock = some q ∨ wr.heap.size ≤ q) :
    Lx wb (w1.setCell ⟨B, 1, none⟩ vO') B vK vO' ar lK lO' ∧ Ch wr (w1.setCell ⟨B, 1, none⟩ vO') (B :: vO.ownBlock.toList) := by
  have c1 : Ch wr w1 (B :: vO.ownBlock.toList) := (grown_ch hg).mono (fun k _ hk => by simp at hk ⊢; exact .inr hk)
  have c2 : Ch w1 (w1.setCell ⟨B, 1, none⟩ vO') (B :: vO.ownBlock.toList) := Ch.one (grown_set _ _ _ _) (by simp)
  have c0 := c1.trans c2
  refine ⟨⟨setCell_block (h.midO hg), ?_, ?_, ?_, ?_, h.hB⟩, c0⟩
  · exact h.oK.ch c0 (fun q hq' hm => by
      simp at hm
      rcases hm with e | e
      · have := h.oK.base q hq'; omega
      · exact h.ap q hq' e)
  · exact ho.ch (l := [B]) (Ch.one (grown_set _ _ _ _) (by simp)) (fun q hq' => by have := ho.base q hq'; simp; omega)
  · intro q hq' e
    rcases hq q e with e1 | e1
    · exact h.ap q hq' e1
    · have := h.oK.lt q hq'; omega
  · exact ((Ch.of h.gr).trans c0).nil (fun q hm => by
      simp at hm
      have := h.hB
      rcases hm with e | e
      · omega
      · have := h.oO.base q e; omega)
theorem OwnZ.numT {w : World} {base n : Nat} {v : Value} {l : List Int} (h : OwnZ w base v l) (hn : l.length = n) : ∃ a c, v = .slice a n c ∧ NumIn w.heap.size w a n c (atF l) ∧ (∀ b q, a = some ⟨b, q, none⟩ → IntB w b) := by
  obtain ⟨a, c, rfl, hN⟩ := h.numIn (M := atF l) (n := n) hn (fun i _ => rfl)
  refine ⟨a, c, rfl, hN, fun b q e => ?_⟩
  subst e
  rcases h.2 with ⟨e, _⟩ | ⟨g, c', cur, e, _, hg, _⟩
  · cases e
  · injection e with e1
    injection e1 with e1
    injection e1 with e1
    subst e1
    exact ⟨cur, hg⟩
/-- the lot is laid to the others -/
theorem Lts.push {w wb wr w' : World} {T : Nat → Ty.TyV} {k B : Nat} {v v' vK vO : Value} {l : List Lt} {ar : Bool} {lK lO : List Int} {e : Lt} (h : Lts w wb T k v l) (hx : Lx wb wr B vK vO ar lK lO) (hK : lK = Ty.k1 (Ty.w17 T k)) (hO : lO = Ty.k2 (Ty.w17 T k)) (ha : ar = (Ty.lie T k).arr)
    (eK : vK = .slice e.ka e.n e.kc) (eO : vO = .slice e.oa e.n e.oc) (eA : e.arr = ar) (ho : OwnLt w' w.heap.size v' (l ++ [e])) (hg : wr.grownBy w' v.ownBlock) : Lts w w' T (k + 1) v' (l ++ [e]) := by
  have hr := h.grow hx.gr
  have hch := grown_ch hg
  have hap : ∀ b, IntB wr b → b ∉ v.ownBlock.toList := fun b hb hm => hr.own.apart hb (by simpa using hm)
  refine ⟨ho, by simp [h.len], fun i hi => ?_, ((Ch.of (l := v.ownBlock.toList) hr.gr).trans hch).nil (fun q hq => hr.own.base q (by simpa using hq))⟩
  by_cases hil : i < l.length
  · rw [List.getElem_append_left hil]
    exact (hr.ent i hil).ch hch hap
  · have hik : i = l.length := by simp at hi; omega
    subst hik
    rw [List.getElem_append_right (Nat.le_refl _)]
    simp only [Nat.sub_self, List.getElem_cons_zero]
    rw [h.len]
    subst hK hO
    obtain ⟨a1, c1, e1, n1, b1⟩ := hx.oK.numT (n := (Ty.w17 T k).length) (by simp [Ty.k1])
    obtain ⟨a2, c2, e2, n2, b2⟩ := hx.oO.numT (n := (Ty.w17 T k).length) (by simp [Ty.k2])
    rw [eK] at e1
    rw [eO] at e2
    injection e1 with p1 p2 p3
    injection e2 with q1 q2 q3
    refine LtOk.ch (w := wr) ⟨p2, by rw [eA, ha], ?_, ?_, ?_, ?_⟩ hch hap
    · rw [p1, p2, p3]; exact n1
    · rw [q1, q2, q3]; exact n2
    · rw [p1]; exact b1
    · rw [q1]; exact b2
end Go.Proofs.Ytdfjaedafampaaa
