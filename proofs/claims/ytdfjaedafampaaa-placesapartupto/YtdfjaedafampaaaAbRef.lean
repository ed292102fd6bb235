/- gantryref11: may, places, Places. -/
import Derived.Test.YtdfjaedafampaaaAbPlaces
import Derived.Test.YtdfjaedafampaaaG7
namespace Go.Proofs.Ytdfjaedafampaaa
open Go.RowKit
set_option linter.unusedVariables false

set_option maxRecDepth 100000 in
theorem rvalue7_any {N : Nat} {w : World} {T : Nat → Ty.TyV} {n : Nat} {a : Option Addr} {c : Nat} (h : TysIn N w a n c T) (hN : N ≤ w.heap.size) (hc : Ty.chk T n = 0) {i : Nat} (hi : i < n) :
    Calls Try.prog 34 #[.slice a n c, .int .i64 (i : Int)] w fun e w' => e = .returned (.bool (Ty.valB (Ty.lie T i))) ∧ w.grownBy w' none := by
  have HW : Hid (Calls Try.prog 27 #[.slice a n c, .int .i64 (i : Int)] w fun e w' => ∃ ka kn kc oa on oc, e = .returned (.tuple #[.slice ka kn kc, .slice oa on oc, .bool (Ty.valB (Ty.lie T i))]) ∧ w.grownBy w' none) := (rWords_any h hN hc hi).mono (by
    rintro e w' ⟨g, ⟨hv, rfl⟩ | ⟨hv, ka, kc, oa, oc, rfl, _⟩⟩
    · exact ⟨none, 0, 0, none, 0, 0, by rw [hv], g⟩
    · exact ⟨ka, _, kc, oa, _, oc, by rw [hv], g⟩)
  generalize Ty.valB (Ty.lie T i) = z at *
  clear h hc
  go_enter Try.func34, Try.ntmps34
  go_wp2_with (go_at_call 27; refine HW.out.mono ?_; rintro e w3 ⟨ka, kn, kc, oa, on, oc, rfl, hg3⟩)
  go_ret
  exact ⟨rfl, hg3⟩
/-- the words of an entry that is a value's -/
theorem rwords7_ok {N : Nat} {w : World} {T : Nat → Ty.TyV} {n : Nat} {a : Option Addr} {c : Nat} (h : TysIn N w a n c T) (hN : N ≤ w.heap.size) (hc : Ty.chk T n = 0) {x : Int} (hx : Ab.vB T n x = true) :
    Calls Try.prog 27 #[.slice a n c, .int .i64 x] w fun e w' => ∃ ka kc oa on oc, e = .returned (.tuple #[.slice ka (Ty.wk T x.toNat).length kc, .slice oa on oc, .bool true]) ∧ w.grownBy w' none := by
  unfold Ab.vB at hx
  simp only [Bool.and_eq_true, Ty.nmB_iff] at hx
  obtain ⟨i, rfl⟩ : ∃ i : Nat, x = i := ⟨x.toNat, by omega⟩
  rw [Int.toNat_natCast] at hx ⊢
  refine (rWords_any h hN hc (by omega)).mono ?_
  rintro e w' ⟨g, ⟨hv, rfl⟩ | ⟨hv, ka, kc, oa, oc, rfl, _⟩⟩
  · rw [hx.2] at hv; cases hv
  · exact ⟨ka, kc, oa, _, oc, rfl, g⟩
set_option maxRecDepth 100000 in
set_option maxHeartbeats 4000000 in
theorem rmay11_any {N : Nat} {w : World} {T : Nat → Ty.TyV} {n : Nat} {a : Option Addr} {c : Nat} (h : TysIn N w a n c T) (hN : N ≤ w.heap.size) (hc : Ty.chk T n = 0) {M : Nat} {la : Option Addr} {m lc : Nat} {L : Nat → Int} (hL : NumIn M w la m lc L) (hm : (m : Int) ≤ 100) :
    Calls Try.prog 23 #[.slice a n c, .slice la m lc] w fun e w' => e = .returned (.bool (Ab.okB T n L m)) ∧ w.grownBy w' none := by
  have HI : Hid (∀ W x, Calls Try.prog 33 #[.slice a n c, .int .i64 x] W fun e w' => e = .returned (.bool (Ty.nmB n x)) ∧ w' = W) := fun W x => ris7_any a n c x W
  have HVl : Hid (∀ W x, w.grownBy W none → Ty.nmB n x = true → Calls Try.prog 34 #[.slice a n c, .int .i64 x] W fun e w' => e = .returned (.bool (Ty.valB (Ty.lie T x.toNat))) ∧ W.grownBy w' none) := fun W x hW hx => by
    rw [Ty.nmB_iff] at hx
    obtain ⟨i, rfl⟩ : ∃ i : Nat, x = i := ⟨x.toNat, by omega⟩
    rw [Int.toNat_natCast]
    exact rvalue7_any (h.grow hW) (Nat.le_trans hN hW.size) hc (by omega)
  have HL : Hid (∀ W, w.grownBy W none → NumIn M W la m lc L) := fun W hW => hL.grow hW
  have hle := hL.le
  have hnl := h.le
  obtain ⟨OB, hOB⟩ : ∃ b, b = Ab.okB T n L m := ⟨_, rfl⟩
  rw [← hOB]
  have HOB : Hid (OB = Ab.okB T n L m) := hOB
  clear hOB h hL hc
  go_enter Try.func23, Try.ntmps23
  go_wp2_with fail
  go_loopw [5] (fun ix wr => ∃ j : Nat, ix = .int .i64 j ∧ j ≤ m ∧ w.grownBy wr none ∧ ∀ k, k < j → Ab.vB T n (L k) = true) (fun ix _ => m - (intOf ix).toNat)
  case atStart => exact ⟨0, rfl, Nat.zero_le _, World.grownBy.refl _ _, fun k hk => by omega⟩
  case round =>
    obtain ⟨j, rfl, hj, hg, hv⟩ := hrel
    have HG : Hid (w.grownBy wr none) := hg
    have HV : Hid (∀ k, k < j → Ab.vB T n (L k) = true) := hv
    by_cases hjm : j < m
    · have hjm' : (j : Int) < m := by omega
      obtain ⟨lb, lo, hla, _, hci⟩ := (HL.out wr hg).at hjm
      subst hla
      have HNo : Hid (Ab.vB T n (L j) = false → OB = false) := fun hf => by
        rw [HOB.out, Ab.ok_v]
        simp only [Bool.and_eq_false_iff, List.all_eq_false]
        exact .inr ⟨j, List.mem_range.2 hjm, by rw [hf]; decide⟩
      have HYe : Hid (Ab.vB T n (L j) = true → ∀ k, k < j + 1 → Ab.vB T n (L k) = true) := fun hy k hk => by
        by_cases e : k < j
        · exact hv k e
        · obtain rfl : k = j := by omega
          exact hy
      have HI1 : Hid (Calls Try.prog 33 #[.slice a n c, .int .i64 (L j)] wr fun e w' => e = .returned (.bool (Ty.nmB n (L j))) ∧ w' = wr) := HI.out wr (L j)
      have HV1 := HVl.out wr (L j) hg
      obtain ⟨B1, hB1⟩ : ∃ b, b = Ty.nmB n (L j) := ⟨_, rfl⟩
      obtain ⟨B2, hB2⟩ : ∃ b, b = Ty.valB (Ty.lie T (L j).toNat) := ⟨_, rfl⟩
      have hvj : Ab.vB T n (L j) = (B1 && B2) := by rw [hB1, hB2]; rfl
      rw [hvj] at HNo HYe
      rw [← hB1] at HI1 HV1
      rw [← hB2] at HV1
      clear hB1 hB2 hvj hg hv
      generalize L j = y at *
      cases B1
      · obtain rfl := HNo.out rfl
        clear HV1
        go_wp2_with (go_at_call 33; refine HI1.out.mono ?_; rintro e w3 ⟨rfl, hw3⟩; subst hw3)
        go_ret
        exact ⟨rfl, HG.out⟩
      · have HV2 : Hid (Calls Try.prog 34 #[.slice a n c, .int .i64 y] wr fun e w' => e = .returned (.bool B2) ∧ wr.grownBy w' none) := HV1 rfl
        clear HV1
        cases B2
        · obtain rfl := HNo.out rfl
          go_wp2_with (first
            | (go_at_call 33; refine HI1.out.mono ?_; rintro e w3 ⟨rfl, hw3⟩; subst hw3)
            | (go_at_call 34; refine HV2.out.mono ?_; rintro e w4 ⟨rfl, hg4⟩))
          go_ret
          exact ⟨rfl, grown_trans HG.out hg4⟩
        · go_wp2_with (first
            | (go_at_call 33; refine HI1.out.mono ?_; rintro e w3 ⟨rfl, hw3⟩; subst hw3)
            | (go_at_call 34; refine HV2.out.mono ?_; rintro e w4 ⟨rfl, hg4⟩))
          go_roundw
          case rel => exact ⟨j + 1, by go_num, by omega, grown_trans HG.out hg4, HYe.out rfl⟩
          case measure => simp [intOf]; omega
    · obtain rfl : j = m := by omega
      have hob : OB = decide (j ≤ 8) := by
        rw [HOB.out, Ab.ok_v, List.all_eq_true.2 (fun k hk => hv k (List.mem_range.1 hk)), Bool.and_true]
      by_cases h8 : j ≤ 8
      · rw [decide_eq_true h8] at hob
        subst hob
        have h8' : (j : Int) ≤ 8 := by omega
        go_wp2_with fail
        go_ret
        exact ⟨by first | rfl | (simp; done) | (simp; omega), HG.out⟩
      · rw [decide_eq_false h8] at hob
        subst hob
        have h8' : ¬ (j : Int) ≤ 8 := by omega
        go_wp2_with fail
        go_ret
        exact ⟨by first | rfl | (simp; done) | (simp; omega), HG.out⟩
theorem OwnP.step {w wr w2 : World} {v v2 : Value} {l l2 : List Ab.Pc} (h : OwnP wr w.heap.size v l) (hg : w.grownBy wr none) (h2 : OwnP w2 w.heap.size v2 l2) (g : wr.grownBy w2 v.ownBlock) : w.grownBy w2 none :=
  ((Ch.of (l := v.ownBlock.toList) hg).trans (grown_ch g)).nil (fun q hq => h.base q (by simpa using hq))
set_option maxRecDepth 100000 in
set_option maxHeartbeats 8000000 in
theorem rplaces11_any {N : Nat} {w : World} {T : Nat → Ty.TyV} {n : Nat} {a : Option Addr} {c : Nat} (h : TysIn N w a n c T) (hN : N ≤ w.heap.size) (hc : Ty.chk T n = 0) {M : Nat} {la : Option Addr} {m lc : Nat} {L : Nat → Int} (hL : NumIn M w la m lc L) (hok : Ab.okB T n L m = true) {s0 : Nat} (hs : s0 ≤ 200) :
    Calls Try.prog 24 #[.slice a n c, .slice la m lc, .int .i64 (s0 : Int)] w fun e w' => ∃ v, e = .returned (.tuple #[v, .int .i64 ((Ab.go (Ab.kw T L) s0 m).s : Int)]) ∧ OwnP w' w.heap.size v (Ab.go (Ab.kw T L) s0 m).l ∧ w.grownBy w' none := by
  have hm := (Ab.ok_iff.1 hok).1
  have hm' : (m : Int) ≤ 8 := by omega
  have hle := hL.le
  have hnl := h.le
  have hK := Ab.kw_le hc hok
  have HKb : Hid (∀ k, k < m → Ab.kw T L k ≤ 16) := hK
  have HGo : Hid (∀ i, i ≤ m → (Ab.go (Ab.kw T L) s0 i).r ≤ 6 ∧ (Ab.go (Ab.kw T L) s0 i).s ≤ 400 ∧ (Ab.go (Ab.kw T L) s0 i).l.length ≤ 128) := fun i hi => by
    have := Ab.go_b (K := Ab.kw T L) (s0 := s0) (i := i) (fun j hj => hK j (by omega))
    omega
  have HWd : Hid (∀ W j, w.grownBy W none → j < m → Calls Try.prog 27 #[.slice a n c, .int .i64 (L j)] W fun e w' => ∃ ka kc oa on oc, e = .returned (.tuple #[.slice ka (Ab.kw T L j) kc, .slice oa on oc, .bool true]) ∧ W.grownBy w' none) := fun W j hW hj => by
    obtain ⟨x1, x2, x3⟩ := (Ab.ok_iff.1 hok).2 j hj
    exact rwords7_ok (h.grow hW) (Nat.le_trans hN hW.size) hc (by unfold Ab.vB; rw [Ty.nmB_iff.2 ⟨x1, x2⟩, x3]; rfl)
  have HL : Hid (∀ W, w.grownBy W none → NumIn M W la m lc L) := fun W hW => hL.grow hW
  clear h hL hc hok hK hs
  generalize Ab.kw T L = K at *
  obtain ⟨b, hb⟩ : ∃ b, w.heap.size = b := ⟨_, rfl⟩
  have HB : Hid (w.heap.size = b) := hb
  rw [hb]
  obtain ⟨XM, hXM⟩ : ∃ XM, XM = Ab.go K s0 m := ⟨_, rfl⟩
  rw [← hXM]
  have HXM : Hid (XM = Ab.go K s0 m) := hXM
  clear hXM
  go_enter Try.func24, Try.ntmps24
  go_wp2_with fail
  go_loopw [2, 8, 9, 10] (fun sv v rv ix wr => ∃ i : Nat, ix = .int .i64 i ∧ i ≤ m ∧ sv = .int .i64 ((Ab.go K s0 i).s : Int) ∧ rv = .int .i64 ((Ab.go K s0 i).r : Int) ∧ OwnP wr b v (Ab.go K s0 i).l ∧ w.grownBy wr none) (fun _ _ _ ix _ => m - (intOf ix).toNat)
  case atStart => exact ⟨0, rfl, Nat.zero_le _, rfl, rfl, ownP_nil _ _, World.grownBy.refl _ _⟩
  case round =>
    obtain ⟨i, rfl, hi, rfl, rfl, hp, hg⟩ := hrel
    obtain ⟨wo, hwo⟩ : ∃ wo, wo = wr := ⟨_, rfl⟩
    obtain ⟨V4, hV4⟩ : ∃ V, V = u8 := ⟨_, rfl⟩
    rw [← hwo, ← hV4] at hp
    rw [← hwo] at hg
    rw [← hwo, ← hV4]
    clear hwo hV4
    obtain ⟨hr6, hxs, hxl⟩ := HGo.out i hi
    have HX1 : Hid (∀ k, k = K i → ¬ (Ab.go K s0 i).r + k ≤ 6 → Ab.go K s0 (i + 1) = ⟨(Ab.go K s0 i).r, (Ab.go K s0 i).s + k, (Ab.go K s0 i).l ++ Ab.sl (Ab.go K s0 i).s k⟩) := fun k hk h => by subst hk; exact Ab.one_out h
    have HX2 : Hid (∀ k, k = K i → (Ab.go K s0 i).r + k ≤ 6 → Ab.go K s0 (i + 1) = ⟨(Ab.go K s0 i).r + k, (Ab.go K s0 i).s, (Ab.go K s0 i).l ++ Ab.rg (Ab.go K s0 i).r k⟩) := fun k hk h => by subst hk; exact Ab.one_in h
    have hend : i = m → XM = Ab.go K s0 i := fun e => by rw [HXM.out, e]
    have HE : Hid (i = m → XM = Ab.go K s0 i) := hend
    clear hend
    generalize Ab.go K s0 i = x at *
    have HP : Hid (OwnP wo b V4 x.l) := hp
    have HG : Hid (w.grownBy wo none) := hg
    obtain ⟨pa, pc, hV4, _⟩ := hp.slice
    subst hV4
    have hxl' : (x.l.length : Int) ≤ 128 := by omega
    have hxs' : (x.s : Int) ≤ 400 := by omega
    have hr6' : (x.r : Int) ≤ 6 := by omega
    have hsz := hg.size
    by_cases him : i < m
    · have him' : (i : Int) < m := by omega
      obtain ⟨lb, lo, hla, _, hci⟩ := (HL.out wo hg).at him
      subst hla
      have hk16 := HKb.out i him
      have HW1 := HWd.out wo i hg him
      obtain ⟨k, hk⟩ : ∃ k, k = K i := ⟨_, rfl⟩
      have Y1 : Hid (¬ x.r + k ≤ 6 → Ab.go K s0 (i + 1) = ⟨x.r, x.s + k, x.l ++ Ab.sl x.s k⟩) := HX1.out k hk
      have Y2 : Hid (x.r + k ≤ 6 → Ab.go K s0 (i + 1) = ⟨x.r + k, x.s, x.l ++ Ab.rg x.r k⟩) := HX2.out k hk
      rw [← hk] at hk16 HW1
      have HW2 : Hid (Calls Try.prog 27 #[.slice a n c, .int .i64 (L i)] wo fun e w' => ∃ ka kc oa on oc, e = .returned (.tuple #[.slice ka k kc, .slice oa on oc, .bool true]) ∧ wo.grownBy w' none) := HW1
      clear hp hg hk HW1 HX1 HX2
      generalize L i = y at *
      have hk16' : (k : Int) ≤ 16 := by omega
      by_cases hfit : x.r + k ≤ 6
      · have hfit' : (k : Int) ≤ 6 - x.r := by omega
        have Y3 := Y2.out hfit
        have Y3 : Hid (Ab.go K s0 (i + 1) = ⟨x.r + k, x.s, x.l ++ Ab.rg x.r k⟩) := Y3
        clear Y1 Y2
        go_wp2_with (go_at_call 27; refine HW2.out.mono ?_; rintro e w3 ⟨ka, kc, oa, on, oc, rfl, hg3⟩; have HG3 : Hid (w.grownBy w3 none) := grown_trans HG.out hg3; have HP3 : Hid (OwnP w3 b (.slice pa x.l.length pc) (x.l ++ Ab.rg x.r 0)) := (by rw [show Ab.rg x.r 0 = [] from rfl, List.append_nil]; exact HP.out.grow hg3); clear hg3)
        clear hci
        go_loopw [2, 8, 9, 15] (fun sv v rv ix wr => ∃ j : Nat, ix = .int .i64 j ∧ j ≤ k ∧ sv = .int .i64 (x.s : Int) ∧ rv = .int .i64 ((x.r + j : Nat) : Int) ∧ OwnP wr b v (x.l ++ Ab.rg x.r j) ∧ w.grownBy wr none) (fun _ _ _ ix _ => k - (intOf ix).toNat)
        case atStart => exact ⟨0, rfl, Nat.zero_le _, rfl, rfl, HP3.out, HG3.out⟩
        case round =>
          obtain ⟨j, rfl, hj, rfl, rfl, hp, hg⟩ := hrel
          obtain ⟨V5, hV5⟩ : ∃ V, V = u8 := ⟨_, rfl⟩
          rw [← hV5] at hp ⊢
          clear hV5
          have HPj : Hid (OwnP wr b V5 (x.l ++ Ab.rg x.r j)) := hp
          have HGj : Hid (w.grownBy wr none) := hg
          have hszj := hg.size
          have hlb2 : (x.l ++ Ab.rg x.r j).length ≤ 1000 := by rw [List.length_append, Ab.rg_len]; omega
          obtain ⟨pa2, pc2, hV5, _⟩ := hp.slice
          obtain ⟨ll, hll⟩ : ∃ ll, ll = (x.l ++ Ab.rg x.r j).length := ⟨_, rfl⟩
          rw [← hll] at hV5
          subst hV5
          clear hll hp hg
          obtain ⟨z, hz⟩ : ∃ z : Int, z = ((x.r + j : Nat) : Int) := ⟨_, rfl⟩
          have HZ : Hid (z = ((x.r + j : Nat) : Int)) := hz
          have hzb : 0 ≤ z ∧ z ≤ 6 := by omega
          rw [← hz]
          clear hz
          by_cases hjk : j < k
          · have hjk' : (j : Int) < k := by omega
            go_wp2_with (at_builtin; refine wp_appP rfl _ _ rfl b (.slice pa2 ll pc2) (x.l ++ Ab.rg x.r j) ⟨false, z⟩ rfl HPj.out rfl rfl hlb2 (by have := HB.out; omega) ?_; intro v5 w5 ho5 hg5 hq5)
            have e1 : z + 1 = ((x.r + (j + 1) : Nat) : Int) := by have := HZ.out; omega
            refine ⟨⟨j + 1, by go_num, by omega, rfl, congrArg (Value.int .i64) e1, ?_, ?_⟩, by simp [intOf]; omega⟩
            · rw [Ab.rg_succ, ← HZ.out, ← List.append_assoc]
              exact ho5
            · have h1 := HPj.out
              rw [← HB.out] at h1 ho5
              exact h1.step HGj.out ho5 hg5
          · obtain rfl : j = k := by omega
            go_wp2_with fail
            refine ⟨⟨i + 1, by go_num, by omega, ?_, ?_, ?_, HGj.out⟩, by simp [intOf]; omega⟩
            · rw [Y3.out]
            · rw [Y3.out, HZ.out]
            · rw [Y3.out]; exact HPj.out
      · have hfit' : ¬ (k : Int) ≤ 6 - x.r := by omega
        have Y3 := Y1.out hfit
        have Y3 : Hid (Ab.go K s0 (i + 1) = ⟨x.r, x.s + k, x.l ++ Ab.sl x.s k⟩) := Y3
        clear Y1 Y2
        go_wp2_with (go_at_call 27; refine HW2.out.mono ?_; rintro e w3 ⟨ka, kc, oa, on, oc, rfl, hg3⟩; have HG3 : Hid (w.grownBy w3 none) := grown_trans HG.out hg3; have HP3 : Hid (OwnP w3 b (.slice pa x.l.length pc) (x.l ++ Ab.sl x.s 0)) := (by rw [show Ab.sl x.s 0 = [] from rfl, List.append_nil]; exact HP.out.grow hg3); clear hg3)
        clear hci
        go_loopw [2, 8, 9, 15] (fun sv v rv ix wr => ∃ j : Nat, ix = .int .i64 j ∧ j ≤ k ∧ sv = .int .i64 ((x.s + j : Nat) : Int) ∧ rv = .int .i64 (x.r : Int) ∧ OwnP wr b v (x.l ++ Ab.sl x.s j) ∧ w.grownBy wr none) (fun _ _ _ ix _ => k - (intOf ix).toNat)
        case atStart => exact ⟨0, rfl, Nat.zero_le _, rfl, rfl, HP3.out, HG3.out⟩
        case round =>
          obtain ⟨j, rfl, hj, rfl, rfl, hp, hg⟩ := hrel
          obtain ⟨V5, hV5⟩ : ∃ V, V = u8 := ⟨_, rfl⟩
          rw [← hV5] at hp ⊢
          clear hV5
          have HPj : Hid (OwnP wr b V5 (x.l ++ Ab.sl x.s j)) := hp
          have HGj : Hid (w.grownBy wr none) := hg
          have hszj := hg.size
          have hlb2 : (x.l ++ Ab.sl x.s j).length ≤ 1000 := by rw [List.length_append, Ab.sl_len]; omega
          obtain ⟨pa2, pc2, hV5, _⟩ := hp.slice
          obtain ⟨ll, hll⟩ : ∃ ll, ll = (x.l ++ Ab.sl x.s j).length := ⟨_, rfl⟩
          rw [← hll] at hV5
          subst hV5
          clear hll hp hg
          obtain ⟨z, hz⟩ : ∃ z : Int, z = ((x.s + j : Nat) : Int) := ⟨_, rfl⟩
          have HZ : Hid (z = ((x.s + j : Nat) : Int)) := hz
          have hzb : 0 ≤ z ∧ z ≤ 416 := by omega
          rw [← hz]
          clear hz
          by_cases hjk : j < k
          · have hjk' : (j : Int) < k := by omega
            go_wp2_with (at_builtin; refine wp_appP rfl _ _ rfl b (.slice pa2 ll pc2) (x.l ++ Ab.sl x.s j) ⟨true, z⟩ rfl HPj.out rfl rfl hlb2 (by have := HB.out; omega) ?_; intro v5 w5 ho5 hg5 hq5)
            have e1 : z + 1 = ((x.s + (j + 1) : Nat) : Int) := by have := HZ.out; omega
            refine ⟨⟨j + 1, by go_num, by omega, congrArg (Value.int .i64) e1, rfl, ?_, ?_⟩, by simp [intOf]; omega⟩
            · rw [Ab.sl_succ, ← HZ.out, ← List.append_assoc]
              exact ho5
            · have h1 := HPj.out
              rw [← HB.out] at h1 ho5
              exact h1.step HGj.out ho5 hg5
          · obtain rfl : j = k := by omega
            go_wp2_with fail
            refine ⟨⟨i + 1, by go_num, by omega, ?_, ?_, ?_, HGj.out⟩, by simp [intOf]; omega⟩
            · rw [Y3.out, HZ.out]
            · rw [Y3.out]
            · rw [Y3.out]; exact HPj.out
    · obtain rfl : i = m := by omega
      have hx := HE.out rfl
      subst hx
      clear hp hg
      go_wp2_with fail
      refine bodyPost_ret (by simp [results, Try.results24, go_sem]; try rfl) rfl ?_
      exact ⟨_, rfl, HP.out, HG.out⟩
end Go.Proofs.Ytdfjaedafampaaa
