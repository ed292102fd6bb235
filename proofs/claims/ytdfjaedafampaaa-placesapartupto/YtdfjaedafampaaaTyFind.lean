/- How an entry lies: find; the asker itself. -/
import Derived.Test.YtdfjaedafampaaaTyStr
namespace Go.Proofs.Ytdfjaedafampaaa
open Go.RowKit
set_option linter.unusedVariables false

def liV (l : Ty.Li) : Value := .agg #[.int .i64 l.size, .int .i64 l.align, .int .i64 l.words, .bool l.arr]
set_option maxRecDepth 100000 in
set_option maxHeartbeats 4000000 in
theorem find_any {N : Nat} {w : World} {T : Nat → Ty.TyV} {n : Nat} {a : Option Addr} {c bf bt ba F i : Nat} (hA : Ak N w T n a c bf bt ba F) (hO : AskOk N T n a c bf bt ba F i) (hN : N ≤ w.heap.size) (hK : Ty.Fine T n i)
    {x : Ty.TyV} {fa : Option Addr} {fc : Nat} (hx : NumIn N w fa x.nf fc x.F) (hok : Ty.okB x i n = true) :
    Calls Try.prog 50 #[.agg #[.int .i64 x.kind, .int .i64 x.elem, .int .i64 x.n, .slice fa x.nf fc], .func (.func 49) #[] #[.pointer (some ⟨bf, 0, none⟩), .pointer (some ⟨bt, 0, none⟩), .pointer (some ⟨ba, 0, none⟩)]] w fun e w' =>
      e = .returned (liV (Ty.lieOf x (Ty.lie T))) ∧ Ak N w' T n a c bf bt ba F ∧ Ch w w' [F] := by
  have hFlt := hA.lt
  obtain ⟨W2, hW2⟩ : ∃ W2, W2 = (w.alloc (.cells #[.int .i64 x.kind, .int .i64 x.elem, .int .i64 x.n, .slice fa x.nf fc] 50)).alloc (.cells #[.int .i64 0, .int .i64 0, .int .i64 0, .bool false] 86) := ⟨_, rfl⟩
  have hg2 : w.grownBy W2 none := by rw [hW2]; exact ga (World.grownBy_alloc _ _ _) _
  have hs2 : W2.heap.size = w.heap.size + 2 := by rw [hW2]; simp
  have hA2 := hA.grow hg2
  have hx2 := hx.ch (l := []) (Ch.of hg2) (by simp)
  have hN2 : N ≤ W2.heap.size := by omega
  have HA : Hid (Ak N w T n a c bf bt ba F) := hA
  have HN : Hid (N ≤ w.heap.size) := hN
  have HG2 : Hid (w.grownBy W2 none) := hg2
  have hBF : w.heap.size ∉ [F] := by simp; omega
  have hBF1 : w.heap.size + 1 ∉ [F] := by simp; omega
  rcases Ty.ok_cases hok with ⟨hk, h1, h2, h3, h4, h5⟩ | ⟨hk, h1, h2, h16, hf⟩ | ⟨hk, h1, h2⟩ | ⟨h1, h2, h3, h4⟩
  · obtain ⟨L, hL⟩ : ∃ L, L = Ty.lie T x.elem.toNat := ⟨_, rfl⟩
    obtain ⟨hgd, hs⟩ := hK.good x.elem.toNat (by omega)
    rw [← hL] at hgd hs
    have hs0 : 0 ≤ L.size := by have := hgd.w0; have := hgd.ws; omega
    have HC : Hid (Calls Try.prog 49 #[.int .i64 x.elem, .pointer (some ⟨bf, 0, none⟩), .pointer (some ⟨bt, 0, none⟩), .pointer (some ⟨ba, 0, none⟩)] W2 fun e w' =>
        e = .returned (.agg #[.int .i64 L.size, .int .i64 L.align, .int .i64 L.words, .bool L.arr]) ∧ Ak N w' T n a c bf bt ba F ∧ Ch W2 w' [F]) := by
      have := hO x.elem.toNat (by omega) W2 hA2
      rw [Int.toNat_of_nonneg h1] at this
      rw [hL]; exact this
    have hm := Int.mul_le_mul h4 hs hs0 (by omega)
    have hm0 : 0 ≤ x.n * L.size := Int.mul_nonneg h3 hs0
    obtain ⟨M, hM⟩ : ∃ M, M = x.n * L.size := ⟨_, rfl⟩
    rw [← hM] at hm hm0
    have HR : Hid (liV (Ty.lieOf x (Ty.lie T)) = .agg #[.int .i64 M, .int .i64 L.align, .int .i64 0, .bool true]) := by show _ = _; unfold Ty.lieOf liV; rw [if_pos hk, ← hL, ← hM]
    have HM : Hid (wrap64 (x.n * L.size) = M) := by show _ = _; rw [← hM]; unfold wrap64; omega
    obtain ⟨k, el, nn, nf, FF⟩ := x
    simp only at *
    subst hk
    have k0 : W2.cell? ⟨w.heap.size, 0, none⟩ = some (.int .i64 12) := by rw [hW2]; simp
    have k1 : W2.cell? ⟨w.heap.size, 1, none⟩ = some (.int .i64 el) := by rw [hW2]; simp
    have k2 : W2.cell? ⟨w.heap.size, 2, none⟩ = some (.int .i64 nn) := by rw [hW2]; simp
    have K2 : Hid (W2.cell? ⟨w.heap.size, 2, none⟩ = some (.int .i64 nn)) := k2
    have HL2 : Hid (LiAt W2 (w.heap.size + 1) 0 ⟨0, 0, 0, false⟩) := by rw [hW2]; exact ⟨by simp, by simp, by simp, by simp⟩
    have HZ2 : Hid (∀ q, W2.frozen? ⟨w.heap.size + 1, q, none⟩ = false) := fun q => by rw [hW2]; simp
    have HW : Hid (W2 = (w.alloc (.cells #[.int .i64 12, .int .i64 el, .int .i64 nn, .slice fa nf fc] 50)).alloc (.cells #[.int .i64 0, .int .i64 0, .int .i64 0, .bool false] 86)) := hW2
    clear hA hO hK hx hok h1 h2 h5 hgd hW2 hA2 hx2 hL hM hg2
    go_enter Try.func50, Try.ntmps50
    go_wp2_with (go_at_call 49; rw [← HW.out]; refine HC.out.mono ?_; rintro e w3 ⟨rfl, hA3, hg3⟩; have HA3 : Hid (Ak N w3 T n a c bf bt ba F) := hA3; have HG3 : Hid (Ch W2 w3 [F]) := hg3; have hs3 := hg3.size; have HL3 : Hid (LiAt (w3.alloc (.cells #[.int .i64 L.size, .int .i64 L.align, .int .i64 L.words, .bool L.arr] 86)) (w.heap.size + 1) 0 ⟨0, 0, 0, false⟩) := (HL2.out.ch hg3 hBF1).ch (l := []) (Ch.of (World.grownBy_alloc _ _ _)) (by simp); have l0 := HL3.out.c0; have l1 := HL3.out.c1; have l2 := HL3.out.c2; have l3 := HL3.out.c3; have j2 : (w3.alloc (.cells #[.int .i64 L.size, .int .i64 L.align, .int .i64 L.words, .bool L.arr] 86)).cell? ⟨w.heap.size, 2, none⟩ = some (.int .i64 nn) := (Ch.of (l := []) (World.grownBy_alloc _ _ _)).cell (hg3.cell K2.out hBF) (by simp); have HZ3 : Hid (∀ q, (w3.alloc (.cells #[.int .i64 L.size, .int .i64 L.align, .int .i64 L.words, .bool L.arr] 86)).frozen? ⟨w.heap.size + 1, q, none⟩ = false) := (fun q => frozen_ch (l := []) (Ch.of (World.grownBy_alloc _ _ _)) (by omega) (by simp) (frozen_ch hg3 (by omega) hBF1 (HZ2.out q))); have z0 := HZ3.out 0; have z1 := HZ3.out 1; have z2 := HZ3.out 2; have z3 := HZ3.out 3; clear hA3 hg3)
    rw [HM.out]
    refine bodyPost_ret (by simp [results, Try.results50, go_sem, l0, l1, l2, l3]; try rfl) rfl ?_
    rw [HR.out]
    exact ⟨rfl, (((((HA3.out.grow (World.grownBy_alloc _ _ _)).new HA.out HN.out (Nat.le_succ _) (grown_set _ _ _ _)).new HA.out HN.out (Nat.le_succ _) (grown_set _ _ _ _)).new HA.out HN.out (Nat.le_succ _) (grown_set _ _ _ _)).new HA.out HN.out (Nat.le_succ _) (grown_set _ _ _ _)), (((((((Ch.of HG2.out).trans HG3.out).trans (Ch.of (World.grownBy_alloc _ _ _))).new (Nat.le_succ _) (grown_set _ _ _ _)).new (Nat.le_succ _) (grown_set _ _ _ _)).new (Nat.le_succ _) (grown_set _ _ _ _)).new (Nat.le_succ _) (grown_set _ _ _ _))⟩
  · have hP := struct_any hA2 hO hN2 hK hx2 h16 hf
    obtain ⟨L, hL⟩ : ∃ L : Ty.Li, L = ⟨Ty.up (Ty.en x (Ty.lie T) x.nf) (Ty.al x (Ty.lie T) x.nf), Ty.al x (Ty.lie T) x.nf, Ty.ws x (Ty.lie T) x.nf, Ty.ar x (Ty.lie T) x.nf⟩ := ⟨_, rfl⟩
    have HC : Hid (Calls Try.prog 59 #[.slice fa x.nf fc, .func (.func 49) #[] #[.pointer (some ⟨bf, 0, none⟩), .pointer (some ⟨bt, 0, none⟩), .pointer (some ⟨ba, 0, none⟩)]] W2 fun e w' =>
        e = .returned (.agg #[.int .i64 L.size, .int .i64 L.align, .int .i64 L.words, .bool L.arr]) ∧ Ak N w' T n a c bf bt ba F ∧ Ch W2 w' [F]) := by rw [hL]; exact hP
    have HR : Hid (liV (Ty.lieOf x (Ty.lie T)) = .agg #[.int .i64 L.size, .int .i64 L.align, .int .i64 L.words, .bool L.arr]) := by show _ = _; unfold Ty.lieOf liV; rw [if_neg (by omega), if_pos hk, hL]
    obtain ⟨k, el, nn, nf, FF⟩ := x
    simp only at *
    subst hk
    have HL2 : Hid (LiAt W2 (w.heap.size + 1) 0 ⟨0, 0, 0, false⟩) := by rw [hW2]; exact ⟨by simp, by simp, by simp, by simp⟩
    have HZ2 : Hid (∀ q, W2.frozen? ⟨w.heap.size + 1, q, none⟩ = false) := fun q => by rw [hW2]; simp
    have HW : Hid (W2 = (w.alloc (.cells #[.int .i64 13, .int .i64 el, .int .i64 nn, .slice fa nf fc] 50)).alloc (.cells #[.int .i64 0, .int .i64 0, .int .i64 0, .bool false] 86)) := hW2
    clear hA hO hK hx hok h1 h2 hW2 hA2 hx2 hL hg2 hP hf h16
    go_enter Try.func50, Try.ntmps50
    go_wp2_with (go_at_call 59; rw [← HW.out]; refine HC.out.mono ?_; rintro e w3 ⟨rfl, hA3, hg3⟩; have HA3 : Hid (Ak N w3 T n a c bf bt ba F) := hA3; have HG3 : Hid (Ch W2 w3 [F]) := hg3; have hs3 := hg3.size; have HL3 : Hid (LiAt w3 (w.heap.size + 1) 0 ⟨0, 0, 0, false⟩) := (HL2.out.ch hg3 hBF1); have l0 := HL3.out.c0; have l1 := HL3.out.c1; have l2 := HL3.out.c2; have l3 := HL3.out.c3; have HZ3 : Hid (∀ q, w3.frozen? ⟨w.heap.size + 1, q, none⟩ = false) := (fun q => frozen_ch hg3 (by omega) hBF1 (HZ2.out q)); have z0 := HZ3.out 0; have z1 := HZ3.out 1; have z2 := HZ3.out 2; have z3 := HZ3.out 3; clear hA3 hg3)
    refine bodyPost_ret (by simp [results, Try.results50, go_sem, l0, l1, l2, l3]; try rfl) rfl ?_
    rw [HR.out]
    exact ⟨rfl, ((((HA3.out.new HA.out HN.out (Nat.le_succ _) (grown_set _ _ _ _)).new HA.out HN.out (Nat.le_succ _) (grown_set _ _ _ _)).new HA.out HN.out (Nat.le_succ _) (grown_set _ _ _ _)).new HA.out HN.out (Nat.le_succ _) (grown_set _ _ _ _)), ((((((Ch.of HG2.out).trans HG3.out).new (Nat.le_succ _) (grown_set _ _ _ _)).new (Nat.le_succ _) (grown_set _ _ _ _)).new (Nat.le_succ _) (grown_set _ _ _ _)).new (Nat.le_succ _) (grown_set _ _ _ _))⟩
  · have HR : Hid (liV (Ty.lieOf x (Ty.lie T)) = .agg #[.int .i64 16, .int .i64 8, .int .i64 2, .bool false]) := by show _ = _; unfold Ty.lieOf liV; rw [if_neg (by omega), if_neg (by omega), if_pos hk]
    obtain ⟨k, el, nn, nf, FF⟩ := x
    simp only at *
    clear hO hK hx hok h1 h2 hA2 hx2 hg2 hW2 HG2 hs2 hN2
    rcases hk with rfl | rfl
    all_goals (
      go_enter Try.func50, Try.ntmps50
      go_wp2
      refine bodyPost_ret (by simp [results, Try.results50, go_sem]; try rfl) rfl ?_
      rw [HR.out]
      refine ⟨rfl, ?_, ?_⟩
      · exact hA.grow (ga (World.grownBy_alloc _ _ _) _)
      · exact Ch.of (ga (World.grownBy_alloc _ _ _) _))
  · have HR : Hid (liV (Ty.lieOf x (Ty.lie T)) = .agg #[.int .i64 (Wd.by' x.kind), .int .i64 (Wd.by' x.kind), .int .i64 1, .bool false]) := by show _ = _; unfold Ty.lieOf liV; rw [if_neg (by omega), if_neg (by omega), if_neg (by omega)]
    obtain ⟨k, el, nn, nf, FF⟩ := x
    simp only at *
    have k1 : (k == 12) = false := by simp; omega
    have k2 : (k == 13) = false := by simp; omega
    have k3 : (k == 14) = false := by simp; omega
    have k4 : (k == 15) = false := by simp; omega
    have HC : Hid (∀ W, Calls Try.prog 60 #[.int .i64 k] W fun e w' => e = .returned (.int .i64 (Wd.by' k)) ∧ w' = W) := fun W => bytes_any k W
    generalize Wd.by' k = B at *
    clear hO hK hx hok h3 h4 hA2 hx2 hg2 hW2 HG2 hs2 hN2
    go_enter Try.func50, Try.ntmps50
    go_wp2_with (go_at_call 60; refine (HC.out _).mono ?_; rintro e w3 ⟨rfl, rfl⟩)
    refine bodyPost_ret (by simp [results, Try.results50, go_sem]; try rfl) rfl ?_
    rw [HR.out]
    refine ⟨rfl, ?_, ?_⟩
    · exact hA.grow (ga (World.grownBy_alloc _ _ _) _)
    · exact Ch.of (ga (World.grownBy_alloc _ _ _) _)
end Go.Proofs.Ytdfjaedafampaaa
