/- The walk over an entry's words. -/
import Derived.Test.YtdfjaedafampaaaG5
namespace Go.Proofs.Ytdfjaedafampaaa
open Go.RowKit
set_option linter.unusedVariables false

theorem Ty.ws_mono {x : Ty.TyV} {L : Nat → Ty.Li} : ∀ {k m : Nat}, k ≤ m → (∀ j, j < m → Ty.Good (Ty.fl x L j)) → Ty.ws x L k ≤ Ty.ws x L m
  | k, 0, h, _ => by obtain rfl : k = 0 := by omega
                     exact Int.le_refl _
  | k, m + 1, h, hg => by
    by_cases e : k = m + 1
    · subst e; exact Int.le_refl _
    · have h1 := ws_mono (k := k) (m := m) (by omega) fun j hj => hg j (by omega)
      have h2 := (hg m (by omega)).w0
      rw [Ty.ws]
      omega
theorem Ws.midK {N : Nat} {w w1 : World} {T : Nat → Ty.TyV} {n : Nat} {a : Option Addr} {c bf bt ba F M : Nat} {vK vO : Value} {ks os : List Int} (h : Ws N w T n a c bf bt ba F M vK vO ks os) (hg : w.grownBy w1 vK.ownBlock) : w1.cell? ⟨M + 2, 0, none⟩ = some vK ∧ w1.frozen? ⟨M + 2, 0, none⟩ = false := by
  have hs := h.sz
  have bK := h.oK.base
  exact ⟨(grown_ch hg).cell h.cK (by simp; intro e; have := bK _ e; omega), frozen_ch (grown_ch hg) (by omega) (by simp; intro e; have := bK _ e; omega) h.zK⟩
theorem Ws.midO {N : Nat} {w w1 : World} {T : Nat → Ty.TyV} {n : Nat} {a : Option Addr} {c bf bt ba F M : Nat} {vK vO : Value} {ks os : List Int} (h : Ws N w T n a c bf bt ba F M vK vO ks os) (hg : w.grownBy w1 vO.ownBlock) : w1.cell? ⟨M + 3, 0, none⟩ = some vO ∧ w1.frozen? ⟨M + 3, 0, none⟩ = false := by
  have hs := h.sz
  have bO := h.oO.base
  exact ⟨(grown_ch hg).cell h.cO (by simp; intro e; have := bO _ e; omega), frozen_ch (grown_ch hg) (by omega) (by simp; intro e; have := bO _ e; omega) h.zO⟩
def Ty.k1 (l : List (Int × Int)) : List Int := l.map (·.1)
def Ty.k2 (l : List (Int × Int)) : List Int := l.map (·.2)
/-- the walk tells the words of the first K -/
def WalkOk (N : Nat) (T : Nat → Ty.TyV) (n : Nat) (a : Option Addr) (c bf bt ba F M K : Nat) : Prop :=
  ∀ j, j < K → ∀ (at' : Int) w vK vO ks os, Ws N w T n a c bf bt ba F M vK vO ks os → 0 ≤ at' → at' + (Ty.lie T j).size ≤ 1099511627776 → (ks.length : Int) + (Ty.lie T j).words ≤ 1000000 → (os.length : Int) + (Ty.lie T j).words ≤ 1000000 →
    Calls Try.prog 52 #[.int .i64 j, .int .i64 at', .pointer (some ⟨M, 0, none⟩), .pointer (some ⟨M + 1, 0, none⟩), .pointer (some ⟨M + 4, 0, none⟩), .pointer (some ⟨M + 2, 0, none⟩), .pointer (some ⟨M + 3, 0, none⟩)] w fun e w' =>
      e = .returned (.tuple #[]) ∧ ∃ vK' vO', Ws N w' T n a c bf bt ba F M vK' vO' (ks ++ Ty.k1 (Ty.wk T j)) (os ++ Ty.k2 (Ty.sh at' (Ty.wk T j))) ∧ Wm F M w w' vK vO vK' vO'
set_option maxRecDepth 100000 in
set_option maxHeartbeats 8000000 in
theorem walk_step {N : Nat} {T : Nat → Ty.TyV} {n : Nat} {a : Option Addr} {c bf bt ba F M K : Nat} (hW : WalkOk N T n a c bf bt ba F M K) (hF : Ty.Fine T n n) (hn : K < n) : WalkOk N T n a c bf bt ba F M (K + 1) := by
  intro j hj
  by_cases hjK : j < K
  · exact hW j hjK
  obtain rfl : j = K := by omega
  clear hj hjK
  intro at' w vK vO ks os hS h0 h1 hk1 hk2
  have hok := (hF j hn).1
  obtain ⟨hgd, hsz⟩ := hF.good j hn
  have hO := ask_all (N := N) (a := a) (c := c) (bf := bf) (bt := bt) (ba := ba) (F := F) hF (Nat.le_refl _)
  have hn' : (j : Int) < n := by omega
  have hwl := Ty.wk_len (T := T) (n := n) (i := j) fun k hk => (hF k (by omega)).1
  have hwe := Ty.wk_eq hok
  have hM := hS.sz
  have hl4 := hS.l4
  obtain ⟨b, off, fa, fc, rfl, hb, hty⟩ := hS.A.ty.at hn
  obtain ⟨W1, hW1⟩ : ∃ W1, W1 = w.alloc (.cells #[.int .i64 (T j).kind, .int .i64 (T j).elem, .int .i64 (T j).n, .slice fa (T j).nf fc] 50) := ⟨_, rfl⟩
  have hg1 : w.grownBy W1 none := by rw [hW1]; exact World.grownBy_alloc _ _ _
  have hs1 : W1.heap.size = w.heap.size + 1 := by rw [hW1]; simp
  have hS1 := hS.grow hg1
  have x0 : W1.cell? ⟨w.heap.size, 0, none⟩ = some (.int .i64 (T j).kind) := by rw [hW1]; simp
  have x3 : W1.cell? ⟨w.heap.size, 3, none⟩ = some (.slice fa (T j).nf fc) := by rw [hW1]; simp
  have HAsk := hO j hn W1 hS1.A
  obtain ⟨L, hL⟩ : ∃ L, L = Ty.lie T j := ⟨_, rfl⟩
  rw [← hL] at HAsk h1 hk1 hk2 hgd hsz hwl
  have HC : Hid (Calls Try.prog 49 #[.int .i64 j, .pointer (some ⟨bf, 0, none⟩), .pointer (some ⟨bt, 0, none⟩), .pointer (some ⟨ba, 0, none⟩)] W1 fun e w' =>
      e = .returned (.agg #[.int .i64 L.size, .int .i64 L.align, .int .i64 L.words, .bool L.arr]) ∧ Ak N w' T n (some ⟨b, off, none⟩) c bf bt ba F ∧ Ch W1 w' [F]) := HAsk
  have HS1 : Hid (Ws N W1 T n (some ⟨b, off, none⟩) c bf bt ba F M vK vO ks os) := hS1
  have HX0 : Hid (W1.cell? ⟨w.heap.size, 0, none⟩ = some (.int .i64 (T j).kind)) := x0
  have HX3 : Hid (W1.cell? ⟨w.heap.size, 3, none⟩ = some (.slice fa (T j).nf fc)) := x3
  have hfd := field_words L
  have hBF : w.heap.size ∉ [F] := by simp; omega
  have ct := hS.ct
  have t0 := hty.c0
  have t1 := hty.c1
  have t2 := hty.c2
  have t3 := hty.c3
  have HG1 : Hid (w.grownBy W1 none) := hg1
  have ck := hS1.ck
  rw [hW1] at ck
  have HW1 : Hid (W1 = w.alloc (.cells #[.int .i64 (T j).kind, .int .i64 (T j).elem, .int .i64 (T j).n, .slice fa (T j).nf fc] 50)) := hW1
  by_cases hw0 : L.words = 0
  · have e : Ty.wk T j = [] := List.length_eq_zero_iff.1 (by omega)
    rw [e]
    clear e hW hF hok hO hS hS1 HAsk hL hwe hwl hgd hsz hty hW1 x0 x3 hg1
    rw [hw0] at hfd HC
    generalize T j = x at *
    go_enter Try.func52, Try.ntmps52
    go_wp2_with (go_at_call 49; rw [← HW1.out]; refine HC.out.mono ?_; rintro e w3 ⟨rfl, hA3, hg3⟩)
    go_end0
    refine ⟨rfl, vK, vO, ?_, ?_⟩
    · rw [show Ty.k1 [] = [] from rfl, show Ty.k2 (Ty.sh at' []) = [] from rfl, List.append_nil, List.append_nil]
      exact HS1.out.asked hA3 hg3
    · exact (Wm.of (Ch.of HG1.out)).trans (Wm.of hg3)
  have hw0' : (L.words == 0) = false := by simpa using hw0
  rcases Ty.ok_cases hok with ⟨hk, _⟩ | ⟨hk, i3, i4, h16, hf⟩ | ⟨hk, i3, i4⟩ | ⟨i1, i2, i3, i4⟩
  · exfalso
    apply hw0
    rw [hL, Ty.lie_eq hok]
    unfold Ty.lieOf
    rw [if_pos hk]
  · have hgf : ∀ k, k < (T j).nf → Ty.Good (Ty.fl (T j) (Ty.lie T) k) ∧ (Ty.fl (T j) (Ty.lie T) k).size ≤ 65536 := fun k hk' => hF.good _ (by have := hf k hk'; omega)
    have hLw : L.words = Ty.ws (T j) (Ty.lie T) (T j).nf := by rw [hL, Ty.lie_eq hok]; unfold Ty.lieOf; rw [if_neg (by omega), if_pos hk]
    have e : Ty.wk T j = Ty.cat (T j) (Ty.lie T) (Ty.wk T) (T j).nf := by rw [hwe]; unfold Ty.wkOf; rw [if_neg (by omega), if_pos hk]
    have hcl : ∀ k, k ≤ (T j).nf → ((Ty.cat (T j) (Ty.lie T) (Ty.wk T) k).length : Int) = Ty.ws (T j) (Ty.lie T) k := fun k hk' => Ty.cat_len fun q hq => Ty.wk_len (n := n) fun r hr => (hF r (by have := hf q (by omega); omega)).1
    have HP : Hid (∀ W, Ak N W T n (some ⟨b, off, none⟩) c bf bt ba F → N ≤ W.heap.size → NumIn N W fa (T j).nf fc (T j).F → Calls Try.prog 53 #[.slice fa (T j).nf fc, .func (.func 49) #[] #[.pointer (some ⟨bf, 0, none⟩), .pointer (some ⟨bt, 0, none⟩), .pointer (some ⟨ba, 0, none⟩)]] W fun e w' =>
      ∃ v, e = .returned (.tuple #[v, .int .i64 (Ty.en (T j) (Ty.lie T) (T j).nf)]) ∧ OwnZ w' W.heap.size v ((List.range (T j).nf).map (Ty.bg (T j) (Ty.lie T))) ∧ Ak N w' T n (some ⟨b, off, none⟩) c bf bt ba F ∧ Ch W w' [F]) := fun W hA' hN' hx' => places7_any hA' (hO.low (Nat.le_of_lt hn)) hN' (hF.mono (Nat.le_of_lt hn)) hx' h16 hf
    have HR : Hid (∀ k, k < (T j).nf → ∀ W vK1 vO1 , Ws N W T n (some ⟨b, off, none⟩) c bf bt ba F M vK1 vO1 (ks ++ Ty.k1 (Ty.cat (T j) (Ty.lie T) (Ty.wk T) k)) (os ++ Ty.k2 (Ty.sh at' (Ty.cat (T j) (Ty.lie T) (Ty.wk T) k))) →
      Calls Try.prog 52 #[.int .i64 ((T j).F k), .int .i64 (at' + Ty.bg (T j) (Ty.lie T) k), .pointer (some ⟨M, 0, none⟩), .pointer (some ⟨M + 1, 0, none⟩), .pointer (some ⟨M + 4, 0, none⟩), .pointer (some ⟨M + 2, 0, none⟩), .pointer (some ⟨M + 3, 0, none⟩)] W fun e w' =>
      e = .returned (.tuple #[]) ∧ ∃ vK' vO', Ws N w' T n (some ⟨b, off, none⟩) c bf bt ba F M vK' vO' (ks ++ Ty.k1 (Ty.cat (T j) (Ty.lie T) (Ty.wk T) (k + 1))) (os ++ Ty.k2 (Ty.sh at' (Ty.cat (T j) (Ty.lie T) (Ty.wk T) (k + 1)))) ∧ Wm F M W w' vK1 vO1 vK' vO') := by
      intro k hk' W vK1 vO1 hSk
      have hfk := hf k hk'
      have hbi := Ty.bg_in (hF.mono (Nat.le_of_lt hn)) hok hk hk'
      have hfl : Ty.fl (T j) (Ty.lie T) k = Ty.lie T ((T j).F k).toNat := rfl
      have hwm := Ty.ws_mono (x := T j) (L := Ty.lie T) (k := k + 1) (m := (T j).nf) hk' fun q hq => (hgf q hq).1
      rw [Ty.ws, hfl] at hwm
      rw [hfl, ← hL] at hbi
      have hck := hcl k (by omega)
      have := hW ((T j).F k).toNat (by omega) (at' + Ty.bg (T j) (Ty.lie T) k) W vK1 vO1 _ _ hSk (by omega) (by omega) (by rw [List.length_append, Ty.k1, List.length_map]; push_cast; omega) (by rw [List.length_append, Ty.k2, List.length_map, Ty.sh_len]; push_cast; omega)
      rw [Int.toNat_of_nonneg hfk.1] at this
      refine this.mono ?_
      rintro e' w' ⟨rfl, vK', vO', h5, h6⟩
      refine ⟨rfl, vK', vO', ?_, h6⟩
      have e1 : ks ++ Ty.k1 (Ty.cat (T j) (Ty.lie T) (Ty.wk T) (k + 1)) = ks ++ Ty.k1 (Ty.cat (T j) (Ty.lie T) (Ty.wk T) k) ++ Ty.k1 (Ty.wk T ((T j).F k).toNat) := by
        rw [Ty.cat, List.append_assoc]
        congr 1
        simp [Ty.k1, Ty.sh, Function.comp_def]
      have e2 : os ++ Ty.k2 (Ty.sh at' (Ty.cat (T j) (Ty.lie T) (Ty.wk T) (k + 1))) = os ++ Ty.k2 (Ty.sh at' (Ty.cat (T j) (Ty.lie T) (Ty.wk T) k)) ++ Ty.k2 (Ty.sh (at' + Ty.bg (T j) (Ty.lie T) k) (Ty.wk T ((T j).F k).toNat)) := by
        rw [Ty.cat, List.append_assoc, Ty.sh_app, Ty.sh_sh]
        congr 1
        simp [Ty.k2]
      rw [e1, e2]
      exact h5
    have HB : Hid (∀ k, k < (T j).nf → 0 ≤ Ty.bg (T j) (Ty.lie T) k ∧ Ty.bg (T j) (Ty.lie T) k ≤ 65536) := fun k hk' => by
      have h1 := Ty.bg_in (hF.mono (Nat.le_of_lt hn)) hok hk hk'
      have h2 := (hgf k hk').1.w0
      have h3 := (hgf k hk').1.ws
      rw [← hL] at h1
      omega
    have HBg : Hid (∀ k, k < (T j).nf → Ty.bg (T j) (Ty.lie T) k = ((List.range (T j).nf).map (Ty.bg (T j) (Ty.lie T))).getD k 0) := fun k hk => by simp [List.getD_eq_getElem?_getD, hk]
    have hl : ((List.range (T j).nf).map (Ty.bg (T j) (Ty.lie T))).length = (T j).nf := by simp
    have HNX : Hid (NumIn N W1 fa (T j).nf fc (T j).F) := hty.f.ch (l := []) (Ch.of hg1) (by simp)
    have hat : at' ≤ 1099511627776 := by have := hgd.w0; have := hgd.ws; omega
    have hNF : N ≤ F := hS.A.nF
    have hfcl := hty.f.le
    have hfcm := hty.f.max
    unfold maxLen at hfcm
    rw [e]
    clear e hwe hwl hW hF hok hO hS hS1 HAsk hL hgd hsz hty hW1 x0 x3 hg1 hk1 hk2 i3 i4 hf hgf hLw hcl h1
    generalize T j = x at *
    generalize (List.range x.nf).map (Ty.bg x (Ty.lie T)) = Z at *
    generalize Ty.en x (Ty.lie T) x.nf = E at *
    rw [hk] at ck HX0 HW1 t0
    clear hk
    go_enter Try.func52, Try.ntmps52
    go_wp2_with (first
      | (go_at_call 49; rw [← HW1.out]; refine HC.out.mono ?_; rintro e w3 ⟨rfl, hA3, hg3⟩; have HS3 : Hid (Ws N w3 T n (some ⟨b, off, none⟩) c bf bt ba F M vK vO ks os) := HS1.out.asked hA3 hg3; have HG3 : Hid (Ch W1 w3 [F]) := hg3; have HY3 : Hid (w3.cell? ⟨w.heap.size, 3, none⟩ = some (.slice fa x.nf fc)) := hg3.cell HX3.out hBF; have y0 := hg3.cell HX0.out hBF; have y3 := HY3.out; have ck3 := HS3.out.ck; have hs3 := HS3.out.sz; clear hA3 hg3)
      | (go_at_call 53; refine (HP.out _ HS3.out.A (by omega) (HNX.out.ch HG3.out (by simp; exact hNF))).mono ?_; rintro e w4 ⟨v4, rfl, ho4, hA4, hg4⟩; have HS4 : Hid (Ws N w4 T n (some ⟨b, off, none⟩) c bf bt ba F M vK vO ks os) := HS3.out.asked hA4 hg4; have HO4 : Hid (OwnZ w4 w3.heap.size v4 Z) := ho4; have HG4 : Hid (Ch w3 w4 [F]) := hg4; have y4 := hg4.cell HY3.out hBF; clear hA4 hg4 ho4))
    obtain ⟨av, cv, hv4, hcv, hcm, hav⟩ := HO4.out.slice
    rw [hl] at hv4 hcv hav
    subst hv4
    have HAV : Hid (0 < x.nf → ∃ T, av = some ⟨T, 0, none⟩ ∧ w3.heap.size ≤ T ∧ T < w4.heap.size) := hav
    have HNX4 : Hid (NumIn N w4 fa x.nf fc x.F) := (HNX.out.ch HG3.out (by simp; exact hNF)).ch HG4.out (by simp; exact hNF)
    have hsz4 := HG4.out.size
    clear hav
    go_loopw [47] (fun ix wr => ∃ (k : Nat) (vK1 vO1 : Value), ix = .int .i64 k ∧ k ≤ x.nf ∧ Ws N wr T n (some ⟨b, off, none⟩) c bf bt ba F M vK1 vO1 (ks ++ Ty.k1 (Ty.cat x (Ty.lie T) (Ty.wk T) k)) (os ++ Ty.k2 (Ty.sh at' (Ty.cat x (Ty.lie T) (Ty.wk T) k))) ∧ Wm F M w4 wr vK vO vK1 vO1) (fun ix _ => x.nf - (intOf ix).toNat)
    case atStart => exact ⟨0, vK, vO, rfl, Nat.zero_le _, by rw [Ty.cat, show Ty.k1 [] = [] from rfl, show Ty.k2 (Ty.sh at' []) = [] from rfl, List.append_nil, List.append_nil]; exact HS4.out, Wm.refl _ _ _ _ _⟩
    case round =>
      obtain ⟨k, vK1, vO1, rfl, hk, hSr, hMr⟩ := hrel
      have HSr : Hid (Ws N wr T n (some ⟨b, off, none⟩) c bf bt ba F M vK1 vO1 (ks ++ Ty.k1 (Ty.cat x (Ty.lie T) (Ty.wk T) k)) (os ++ Ty.k2 (Ty.sh at' (Ty.cat x (Ty.lie T) (Ty.wk T) k)))) := hSr
      have HMr : Hid (Wm F M w4 wr vK vO vK1 vO1) := hMr
      clear hSr hMr
      by_cases hkn : k < x.nf
      · have hkn' : (k : Int) < x.nf := by omega
        obtain ⟨Tb, rfl, hT1, hT2⟩ := HAV.out (by omega)
        have hlw : ∀ q, q ∈ wl F M vK vO → N ≤ q := fun q hq => by
          have h5 := HS4.out.oK.base q
          have h6 := HS4.out.oO.base q
          rw [wl_mem] at hq
          rcases hq with e | e | e | e | e
          · omega
          · omega
          · omega
          · have := h5 e; omega
          · have := h6 e; omega
        have hTw : Tb ∉ wl F M vK vO := fun hq => by
          have h5 := HS3.out.oK.lt Tb
          have h6 := HS3.out.oO.lt Tb
          rw [wl_mem] at hq
          rcases hq with e | e | e | e | e
          · omega
          · omega
          · omega
          · have := h5 e; omega
          · have := h6 e; omega
        obtain ⟨bb, oo, rfl, hbb, hcc⟩ := (HNX4.out.ch HMr.out.ch hlw).at hkn
        have hon := (HO4.out.ch HMr.out.ch (fun q hq => by simp [Value.ownBlock] at hq; subst hq; exact hTw)).n
        rw [hl] at hon
        have hbk := hon.cell (i := k) (by omega)
        clear hon
        have hBk := HB.out k hkn
        have HBk := HBg.out k hkn
        have HRk := HR.out k hkn
        rw [← HBk] at hbk
        have cw := HSr.out.cw
        obtain ⟨W5, hW5⟩ : ∃ W5, W5 = wr.drew := ⟨_, rfl⟩
        have HD : Hid (wr.grownBy W5 none) := by show World.grownBy _ _ _; rw [hW5]; exact grown_drew (World.grownBy.refl _ _)
        have cw5 : W5.cell? ⟨M + 4, 0, none⟩ = _ := (Ch.of (l := []) HD.out).cell cw (by simp)
        have hb5 : W5.cell? ⟨Tb, k, none⟩ = _ := (Ch.of (l := []) HD.out).cell hbk (by simp)
        have HR5 : Hid (Calls Try.prog 52 #[.int .i64 (x.F k), .int .i64 (at' + Ty.bg x (Ty.lie T) k), .pointer (some ⟨M, 0, none⟩), .pointer (some ⟨M + 1, 0, none⟩), .pointer (some ⟨M + 4, 0, none⟩), .pointer (some ⟨M + 2, 0, none⟩), .pointer (some ⟨M + 3, 0, none⟩)] W5 fun e w' =>
          e = .returned (.tuple #[]) ∧ ∃ vK' vO', Ws N w' T n (some ⟨b, off, none⟩) c bf bt ba F M vK' vO' (ks ++ Ty.k1 (Ty.cat x (Ty.lie T) (Ty.wk T) (k + 1))) (os ++ Ty.k2 (Ty.sh at' (Ty.cat x (Ty.lie T) (Ty.wk T) (k + 1)))) ∧ Wm F M W5 w' vK1 vO1 vK' vO') := HRk W5 vK1 vO1 (HSr.out.grow HD.out)
        clear HRk HBk hbk cw
        generalize x.F k = y at *
        generalize Ty.bg x (Ty.lie T) k = G at hBk hb5 HR5
        go_wp2_with fail
        refine tail_quiet 8 (by kernel_rfl) (by kernel_rfl) ?_
        rw [← hW5]
        clear hW5
        simp only [List.take_succ_cons, List.take_zero, List.drop_succ_cons, List.drop_zero]
        repeat (go_big_quiet_step (exact rfl))
        refine wpQuiet_nil ?_
        go_wp2_with (go_at_call 52; refine HR5.out.mono ?_; rintro e w6 ⟨rfl, vK2, vO2, hS6, hM6⟩)
        go_roundw
        case rel => exact ⟨k + 1, vK2, vO2, by go_num, by omega, hS6, (HMr.out.trans (Wm.of (Ch.of HD.out))).trans hM6⟩
        case measure => simp [intOf]; omega
      · obtain rfl : k = x.nf := by omega
        go_wp2
        go_end0
        exact ⟨rfl, vK1, vO1, HSr.out, (((Wm.of (Ch.of HG1.out)).trans (Wm.of HG3.out)).trans (Wm.of HG4.out)).trans HMr.out⟩
  · have e : Ty.wk T j = [(11, 0), (5, 8)] := by rw [hwe]; unfold Ty.wkOf; rw [if_neg (by omega), if_neg (by omega), if_pos hk]
    have k1 : ((T j).kind == 13) = false := by simp; omega
    have hw1 := hgd.w0
    have hw2 := hgd.ws
    have e1 : Ty.k1 (Ty.wk T j) = [11, 5] := by rw [e]; rfl
    have e2 : Ty.k2 (Ty.sh at' (Ty.wk T j)) = [at', at' + 8] := by rw [e]; simp [Ty.k2, Ty.sh]
    rw [e1, e2]
    have hl2 : L.words = 2 := by rw [e] at hwl; simp at hwl; omega
    have hk1' : ks.length ≤ 2000000 := by omega
    have hk2' : os.length ≤ 2000000 := by omega
    have hat : at' ≤ 1099511627776 := by omega
    have hkk : (T j).kind = 14 ∨ ((T j).kind == 14) = false ∧ (T j).kind = 15 := by simp; omega
    clear e e1 e2 hW hF hok hO hS hS1 HAsk hL hwe hwl hgd hsz hty hW1 x0 x3 hg1 hk1 hk2 hk i3 i4 hw1 hw2 hl2
    generalize T j = x at *
    obtain ⟨xk, xe, xn, xf, xF⟩ := x
    simp only at *
    rcases hkk with rfl | ⟨hk14, rfl⟩
    all_goals (
      go_enter Try.func52, Try.ntmps52
      go_wp2_with (first
        | (go_at_call 49; rw [← HW1.out]; refine HC.out.mono ?_; rintro e w3 ⟨rfl, hA3, hg3⟩; have HS3 : Hid (Ws N w3 T n (some ⟨b, off, none⟩) c bf bt ba F M vK vO ks os) := HS1.out.asked hA3 hg3; have HG3 : Hid (Ch W1 w3 [F]) := hg3; have y0 := hg3.cell HX0.out hBF; have cK3 := HS3.out.cK; have hs3 := HS3.out.sz; clear hA3 hg3)
        | (at_builtin; refine wp_appY2 rfl _ _ rfl (M + 5) vK ks 11 5 rfl HS3.out.oK rfl (by simp) hk1' (by omega) ?_; intro v4 w4 ho4 hg4 hq4; obtain ⟨hc4, hz4⟩ := HS3.out.midK hg4; obtain ⟨a4, p4, hv4, _⟩ := ho4.slice; simp only [List.length_append, List.length_cons, List.length_nil, Nat.zero_add, Nat.reduceAdd] at hv4; subst hv4; obtain ⟨hS5, hM5⟩ := HS3.out.putK ho4 hg4 hq4; have HS5 := hS5; have hcO5 := hS5.cO; have hs5 := hS5.sz)
        | (at_builtin; refine wp_appY2 rfl _ _ rfl (M + 5) vO os at' (at' + 8) rfl HS5.oO rfl (by simp) hk2' (by omega) ?_; intro v6 w6 ho6 hg6 hq6; obtain ⟨hc6, hz6⟩ := HS5.midO hg6; obtain ⟨a6, p6, hv6, _⟩ := ho6.slice; simp only [List.length_append, List.length_cons, List.length_nil, Nat.zero_add, Nat.reduceAdd] at hv6; subst hv6; obtain ⟨hS7, hM7⟩ := HS5.putO ho6 hg6 hq6))
      go_end0
      exact ⟨rfl, _, _, hS7, (((Wm.of (Ch.of HG1.out)).trans (Wm.of HG3.out)).trans hM5).trans hM7⟩)
  · have e : Ty.wk T j = [((T j).kind, 0)] := by rw [hwe]; unfold Ty.wkOf; rw [if_neg (by omega), if_neg (by omega), if_neg (by omega)]
    have k1 : ((T j).kind == 13) = false := by simp; omega
    have k2 : ((T j).kind == 14) = false := by simp; omega
    have k3 : ((T j).kind == 15) = false := by simp; omega
    have hw1 := hgd.w0
    have e1 : Ty.k1 (Ty.wk T j) = [(T j).kind] := by rw [e]; rfl
    have e2 : Ty.k2 (Ty.sh at' (Ty.wk T j)) = [at'] := by rw [e]; simp [Ty.k2, Ty.sh]
    rw [e1, e2]
    have hk1' : ks.length ≤ 2000000 := by omega
    have hk2' : os.length ≤ 2000000 := by omega
    clear e e1 e2 hW hF hok hO hS hS1 HAsk hL hwe hwl hgd hsz hty hW1 x0 x3 hg1 hk1 hk2 i1 i2 i3 i4
    generalize T j = x at *
    go_enter Try.func52, Try.ntmps52
    go_wp2_with (first
      | (go_at_call 49; rw [← HW1.out]; refine HC.out.mono ?_; rintro e w3 ⟨rfl, hA3, hg3⟩; have HS3 : Hid (Ws N w3 T n (some ⟨b, off, none⟩) c bf bt ba F M vK vO ks os) := HS1.out.asked hA3 hg3; have HG3 : Hid (Ch W1 w3 [F]) := hg3; have y0 := hg3.cell HX0.out hBF; have cK3 := HS3.out.cK; have hs3 := HS3.out.sz; clear hA3 hg3)
      | (at_builtin; refine wp_appY1 rfl _ _ rfl (M + 5) vK ks x.kind rfl HS3.out.oK rfl (by simp) hk1' (by omega) ?_; intro v4 w4 ho4 hg4 hq4; obtain ⟨hc4, hz4⟩ := HS3.out.midK hg4; obtain ⟨a4, p4, hv4, _⟩ := ho4.slice; simp only [List.length_append, List.length_cons, List.length_nil, Nat.zero_add] at hv4; subst hv4; obtain ⟨hS5, hM5⟩ := HS3.out.putK ho4 hg4 hq4; have HS5 := hS5; have hcO5 := hS5.cO; have hs5 := hS5.sz)
      | (at_builtin; refine wp_appY1 rfl _ _ rfl (M + 5) vO os at' rfl HS5.oO rfl (by simp) hk2' (by omega) ?_; intro v6 w6 ho6 hg6 hq6; obtain ⟨hc6, hz6⟩ := HS5.midO hg6; obtain ⟨a6, p6, hv6, _⟩ := ho6.slice; simp only [List.length_append, List.length_cons, List.length_nil, Nat.zero_add] at hv6; subst hv6; obtain ⟨hS7, hM7⟩ := HS5.putO ho6 hg6 hq6))
    go_end0
    exact ⟨rfl, _, _, hS7, (((Wm.of (Ch.of HG1.out)).trans (Wm.of HG3.out)).trans hM5).trans hM7⟩
end Go.Proofs.Ytdfjaedafampaaa
