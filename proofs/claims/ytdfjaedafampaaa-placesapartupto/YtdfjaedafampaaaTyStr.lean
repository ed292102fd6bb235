/- How a struct lies. -/
import Derived.Test.YtdfjaedafampaaaG3
namespace Go.Proofs.Ytdfjaedafampaaa
open Go.RowKit
set_option linter.unusedVariables false

theorem LiAt.set1 {w : World} {b : Nat} {l : Ty.Li} (h : LiAt w b 0 l) (z : Int) : LiAt (w.setCell ⟨b, 1, none⟩ (.int .i64 z)) b 0 { l with align := z } :=
  ⟨(World.cell?_setCell_other _ _ _ _ (by simp)).trans h.c0, World.cell?_setCell_same _ _ _ h.c1, (World.cell?_setCell_other _ _ _ _ (by simp)).trans h.c2, (World.cell?_setCell_other _ _ _ _ (by simp)).trans h.c3⟩
theorem LiAt.set2 {w : World} {b : Nat} {l : Ty.Li} (h : LiAt w b 0 l) (z : Int) : LiAt (w.setCell ⟨b, 2, none⟩ (.int .i64 z)) b 0 { l with words := z } :=
  ⟨(World.cell?_setCell_other _ _ _ _ (by simp)).trans h.c0, (World.cell?_setCell_other _ _ _ _ (by simp)).trans h.c1, World.cell?_setCell_same _ _ _ h.c2, (World.cell?_setCell_other _ _ _ _ (by simp)).trans h.c3⟩
theorem LiAt.set3 {w : World} {b : Nat} {l : Ty.Li} (h : LiAt w b 0 l) (z : Bool) : LiAt (w.setCell ⟨b, 3, none⟩ (.bool z)) b 0 { l with arr := z } :=
  ⟨(World.cell?_setCell_other _ _ _ _ (by simp)).trans h.c0, (World.cell?_setCell_other _ _ _ _ (by simp)).trans h.c1, (World.cell?_setCell_other _ _ _ _ (by simp)).trans h.c2, World.cell?_setCell_same _ _ _ h.c3⟩
set_option maxRecDepth 100000 in
set_option maxHeartbeats 4000000 in
theorem struct_any {N : Nat} {w : World} {T : Nat → Ty.TyV} {n : Nat} {a : Option Addr} {c bf bt ba F K : Nat} (hA : Ak N w T n a c bf bt ba F) (hO : AskOk N T n a c bf bt ba F K) (hN : N ≤ w.heap.size) (hK : Ty.Fine T n K)
    {x : Ty.TyV} {fa : Option Addr} {fc : Nat} (hx : NumIn N w fa x.nf fc x.F) (h16 : x.nf ≤ 16) (hf : ∀ k, k < x.nf → 0 ≤ x.F k ∧ x.F k < K) :
    Calls Try.prog 59 #[.slice fa x.nf fc, .func (.func 49) #[] #[.pointer (some ⟨bf, 0, none⟩), .pointer (some ⟨bt, 0, none⟩), .pointer (some ⟨ba, 0, none⟩)]] w fun e w' =>
      e = .returned (.agg #[.int .i64 (Ty.up (Ty.en x (Ty.lie T) x.nf) (Ty.al x (Ty.lie T) x.nf)), .int .i64 (Ty.al x (Ty.lie T) x.nf), .int .i64 (Ty.ws x (Ty.lie T) x.nf), .bool (Ty.ar x (Ty.lie T) x.nf)]) ∧ Ak N w' T n a c bf bt ba F ∧ Ch w w' [F] := by
  have hle := hx.le
  have hmx := hx.max
  unfold maxLen at hmx
  have HP : Hid (∀ W, Ak N W T n a c bf bt ba F → N ≤ W.heap.size → NumIn N W fa x.nf fc x.F → Calls Try.prog 53 #[.slice fa x.nf fc, .func (.func 49) #[] #[.pointer (some ⟨bf, 0, none⟩), .pointer (some ⟨bt, 0, none⟩), .pointer (some ⟨ba, 0, none⟩)]] W fun e w' =>
      ∃ v, e = .returned (.tuple #[v, .int .i64 (Ty.en x (Ty.lie T) x.nf)]) ∧ OwnZ w' W.heap.size v ((List.range x.nf).map (Ty.bg x (Ty.lie T))) ∧ Ak N w' T n a c bf bt ba F ∧ Ch W w' [F]) := fun W hA' hN' hx' => places7_any hA' hO hN' hK hx' h16 hf
  have HA : Hid (Ak N w T n a c bf bt ba F) := hA
  have HO : Hid (AskOk N T n a c bf bt ba F K) := hO
  have HX : Hid (NumIn N w fa x.nf fc x.F) := hx
  have HF : Hid (∀ k, k < x.nf → 0 ≤ x.F k ∧ x.F k < K) := hf
  have HK : Hid (∀ k, k < x.nf → Ty.Good (Ty.fl x (Ty.lie T) k) ∧ (Ty.fl x (Ty.lie T) k).size ≤ 65536) := fun k hk => hK.good _ (by have := hf k hk; omega)
  have HNF : Hid (N ≤ F) := hA.nF
  have HN : Hid (N ≤ w.heap.size) := hN
  have hFlt := hA.lt
  obtain ⟨m, hm⟩ : ∃ m, m = x.nf := ⟨_, rfl⟩
  rw [← hm] at h16 hle HX HF HK HP ⊢
  clear hA hO hx hf hK hm
  go_enter Try.func59, Try.ntmps59
  go_wp2_with fail
  go_loopw [13] (fun ix wr => ∃ k : Nat, ix = .int .i64 k ∧ k ≤ m ∧ LiAt wr w.heap.size 0 ⟨0, Ty.al x (Ty.lie T) k, Ty.ws x (Ty.lie T) k, Ty.ar x (Ty.lie T) k⟩ ∧ (∀ q, wr.frozen? ⟨w.heap.size, q, none⟩ = false) ∧ Ak N wr T n a c bf bt ba F ∧ Ch w wr [F]) (fun ix _ => m - (intOf ix).toNat)
  case atStart => exact ⟨0, rfl, Nat.zero_le _, ⟨by simp, by simp [Ty.al], by simp [Ty.ws], by simp [Ty.ar]⟩, fun q => by simp, HA.out.grow (World.grownBy_alloc _ _ _), Ch.of (World.grownBy_alloc _ _ _)⟩
  case round =>
    obtain ⟨k, rfl, hk, hl, hfz, hA, hg⟩ := hrel
    have HG : Hid (Ch w wr [F]) := hg
    have HL : Hid (LiAt wr w.heap.size 0 ⟨0, Ty.al x (Ty.lie T) k, Ty.ws x (Ty.lie T) k, Ty.ar x (Ty.lie T) k⟩) := hl
    have HZ : Hid (∀ q, wr.frozen? ⟨w.heap.size, q, none⟩ = false) := hfz
    have HA2 : Hid (Ak N wr T n a c bf bt ba F) := hA
    have hsz := World.block_lt_of_cell? _ _ hl.c0
    clear hl hfz hA hg
    by_cases hkn : k < m
    · have hkn' : (k : Int) < m := by omega
      have hXr := HX.out.ch HG.out (by simp; exact HNF.out)
      obtain ⟨b, off, rfl, hb, hc⟩ := hXr.at hkn
      have hfk := HF.out k hkn
      obtain ⟨j, hj⟩ : ∃ j : Nat, x.F k = j := ⟨(x.F k).toNat, by omega⟩
      have hfl : Ty.fl x (Ty.lie T) k = Ty.lie T j := by unfold Ty.fl; rw [hj]; rfl
      obtain ⟨hgd, hs6⟩ := HK.out k hkn
      have hen := Ty.en_spec (k := k) fun i hi => HK.out i (by omega)
      have hale := Ty.al_al (k := k) fun i hi => (HK.out i (by omega)).1
      obtain ⟨L, hL⟩ : ∃ L, L = Ty.lie T j := ⟨_, rfl⟩
      obtain ⟨al, hal⟩ : ∃ al, al = Ty.al x (Ty.lie T) k := ⟨_, rfl⟩
      obtain ⟨ws, hws⟩ : ∃ ws, ws = Ty.ws x (Ty.lie T) k := ⟨_, rfl⟩
      obtain ⟨ar, har⟩ : ∃ ar, ar = Ty.ar x (Ty.lie T) k := ⟨_, rfl⟩
      have HE1 : Hid (Ty.al x (Ty.lie T) (k + 1) = max al L.align) := by show _ = _; rw [Ty.al, hfl, hal, hL]
      have HE2 : Hid (Ty.ws x (Ty.lie T) (k + 1) = ws + L.words) := by show _ = _; rw [Ty.ws, hfl, hws, hL]
      have HE3 : Hid (Ty.ar x (Ty.lie T) (k + 1) = (ar || L.arr)) := by show _ = _; rw [Ty.ar, hfl, har, hL]
      rw [hfl, ← hL] at hgd hs6
      rw [← hws] at hen
      rw [← hal, ← hws, ← har] at HL
      rw [← hal] at hale
      have w0 := hgd.w0
      have w1 := hgd.ws
      have w2 : ws ≤ 1099511627776 := by omega
      have w3 := hen.1
      have a1 := hale.pos
      have a2 := hale.le
      have a3 := hgd.al.pos
      have a4 := hgd.al.le
      have HC : Hid (∀ W, Ak N W T n a c bf bt ba F → Calls Try.prog 49 #[.int .i64 j, .pointer (some ⟨bf, 0, none⟩), .pointer (some ⟨bt, 0, none⟩), .pointer (some ⟨ba, 0, none⟩)] W fun e w' =>
        e = .returned (.agg #[.int .i64 L.size, .int .i64 L.align, .int .i64 L.words, .bool L.arr]) ∧ Ak N w' T n a c bf bt ba F ∧ Ch W w' [F]) := by rw [hL]; exact HO.out j (by omega)
      rw [hj] at hc
      have hBF : w.heap.size ∉ [F] := by simp; omega
      clear hfk hj hfl hgd hal hws har hen hL
      cases ar
      all_goals (
        go_wp2_with (go_at_call 49; refine (HC.out _ HA2.out).mono ?_; rintro e w3 ⟨rfl, hA3, hg3⟩; have HA3 : Hid (Ak N w3 T n a c bf bt ba F) := hA3; have HG3 : Hid (Ch wr w3 [F]) := hg3; have hsz3 := hg3.size; have HL3 : Hid (LiAt (w3.alloc (.cells #[.int .i64 L.size, .int .i64 L.align, .int .i64 L.words, .bool L.arr] 86)) w.heap.size 0 ⟨0, al, ws, _⟩) := (HL.out.ch hg3 hBF).ch (l := []) (Ch.of (World.grownBy_alloc _ _ _)) (by simp); have l1 := HL3.out.c1; have l2 := HL3.out.c2; have l3 := HL3.out.c3; have HZ3 : Hid (∀ q, (w3.alloc (.cells #[.int .i64 L.size, .int .i64 L.align, .int .i64 L.words, .bool L.arr] 86)).frozen? ⟨w.heap.size, q, none⟩ = false) := (fun q => frozen_ch (l := []) (Ch.of (World.grownBy_alloc _ _ _)) (by omega) (by simp) (frozen_ch hg3 hsz hBF (HZ.out q))); have z1 := HZ3.out 1; have z2 := HZ3.out 2; have z3 := HZ3.out 3; clear hA3 hg3)
        have eM : max al L.align = if al < L.align then L.align else al := by split <;> omega
        go_roundw
        case rel =>
          refine ⟨k + 1, by go_num, by omega, ?_, fun q => by simp only [World.frozen?_setCell]; exact HZ3.out q, ?_, ?_⟩
          · rw [HE1.out, HE2.out, HE3.out, eM]
            exact ((HL3.out.set1 _).set2 _).set3 _
          · exact (((HA3.out.grow (World.grownBy_alloc _ _ _)).new HA.out HN.out (Nat.le_refl _) (grown_set _ _ _ _)).new HA.out HN.out (Nat.le_refl _) (grown_set _ _ _ _)).new HA.out HN.out (Nat.le_refl _) (grown_set _ _ _ _)
          · exact ((((HG.out.trans HG3.out).trans (Ch.of (World.grownBy_alloc _ _ _))).new (Nat.le_refl _) (grown_set _ _ _ _)).new (Nat.le_refl _) (grown_set _ _ _ _)).new (Nat.le_refl _) (grown_set _ _ _ _)
        case measure => simp [intOf]; omega)
    · obtain rfl : k = m := by omega
      have hXr := HX.out.ch HG.out (by simp; exact HNF.out)
      have hen := Ty.en_spec (k := k) fun i hi => HK.out i (by omega)
      have hale := Ty.al_al (k := k) fun i hi => (HK.out i (by omega)).1
      have hs0 := HG.out.size
      have hPC := HP.out wr HA2.out (by have := HN.out; omega) hXr
      have HPC : Hid (Calls Try.prog 53 #[.slice fa k fc, .func (.func 49) #[] #[.pointer (some ⟨bf, 0, none⟩), .pointer (some ⟨bt, 0, none⟩), .pointer (some ⟨ba, 0, none⟩)]] wr fun e w' =>
        ∃ v, e = .returned (.tuple #[v, .int .i64 (Ty.en x (Ty.lie T) k)]) ∧ OwnZ w' wr.heap.size v ((List.range k).map (Ty.bg x (Ty.lie T))) ∧ Ak N w' T n a c bf bt ba F ∧ Ch wr w' [F]) := hPC
      obtain ⟨E, hE⟩ : ∃ E, E = Ty.en x (Ty.lie T) k := ⟨_, rfl⟩
      obtain ⟨al, hal⟩ : ∃ al, al = Ty.al x (Ty.lie T) k := ⟨_, rfl⟩
      obtain ⟨ws, hws⟩ : ∃ ws, ws = Ty.ws x (Ty.lie T) k := ⟨_, rfl⟩
      obtain ⟨ar, har⟩ : ∃ ar, ar = Ty.ar x (Ty.lie T) k := ⟨_, rfl⟩
      obtain ⟨U, hU⟩ : ∃ U, U = Ty.up E al := ⟨_, rfl⟩
      have HU : Hid (∀ W, Calls Try.prog 61 #[.int .i64 E, .int .i64 al] W fun e w' => e = .returned (.int .i64 U) ∧ w' = W) := fun W => by rw [hU, hE, hal]; exact up_any hale (by omega) (by omega) W
      have HR : Hid ((Value.agg #[.int .i64 (Ty.up (Ty.en x (Ty.lie T) k) (Ty.al x (Ty.lie T) k)), .int .i64 (Ty.al x (Ty.lie T) k), .int .i64 (Ty.ws x (Ty.lie T) k), .bool (Ty.ar x (Ty.lie T) k)]) = .agg #[.int .i64 U, .int .i64 al, .int .i64 ws, .bool ar]) := by show _ = _; rw [hU, hE, hal, hws, har]
      rw [← hal, ← hws, ← har] at HL
      rw [← hE] at HPC
      have hBF : w.heap.size ∉ [F] := by simp; omega
      clear hPC hXr hen hale hE hal hws har hU
      go_wp2_with (first
        | (go_at_call 53; refine HPC.out.mono ?_; rintro e w3 ⟨v3, rfl, ho3, hA3, hg3⟩; have HA3 : Hid (Ak N w3 T n a c bf bt ba F) := hA3; have HG3 : Hid (Ch wr w3 [F]) := hg3; have HL3 : Hid (LiAt w3 w.heap.size 0 ⟨0, al, ws, ar⟩) := (HL.out.ch hg3 hBF); have l0 := HL3.out.c0; have l1 := HL3.out.c1; have l2 := HL3.out.c2; have l3 := HL3.out.c3; have HZ3 : Hid (∀ q, w3.frozen? ⟨w.heap.size, q, none⟩ = false) := (fun q => frozen_ch hg3 hsz hBF (HZ.out q)); have z0 := HZ3.out 0; have z1 := HZ3.out 1; have z2 := HZ3.out 2; have z3 := HZ3.out 3; clear hA3 hg3 ho3)
        | (go_at_call 61; refine (HU.out _).mono ?_; rintro e w4 ⟨rfl, rfl⟩))
      refine bodyPost_ret (by simp [results, Try.results59, go_sem, l0, l1, l2, l3]; try rfl) rfl ?_
      rw [HR.out]
      exact ⟨rfl, (((((HA3.out.new HA.out HN.out (Nat.le_refl _) (grown_set _ _ _ _)).new HA.out HN.out (Nat.le_refl _) (grown_set _ _ _ _)).new HA.out HN.out (Nat.le_refl _) (grown_set _ _ _ _)).new HA.out HN.out (Nat.le_refl _) (grown_set _ _ _ _)).new HA.out HN.out (Nat.le_refl _) (grown_set _ _ _ _)), ((((((HG.out.trans HG3.out).new (Nat.le_refl _) (grown_set _ _ _ _)).new (Nat.le_refl _) (grown_set _ _ _ _)).new (Nat.le_refl _) (grown_set _ _ _ _)).new (Nat.le_refl _) (grown_set _ _ _ _)).new (Nat.le_refl _) (grown_set _ _ _ _))⟩
end Go.Proofs.Ytdfjaedafampaaa
