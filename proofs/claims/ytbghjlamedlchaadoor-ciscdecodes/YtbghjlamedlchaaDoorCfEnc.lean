/- gantryref4.Encode: its contract. -/
import Derived.Test.YtbghjlamedlchaaDoorCfUse
import Derived.Test.YtbghjlamedlchaaDoorCdWr
namespace Go.Proofs.YtbghjlamedlchaaDoor
open Go.RowKit
set_option linter.unusedVariables false

namespace Cc
theorem letB_len (v : InV) (l : Int) : (letB v l).length ≤ 8 := by
  have hc := cnt_c (z := size v.imm)
  unfold letB
  repeat' split
  all_goals first | (rw [low_len]; omega) | (simp only [List.length_cons, List.length_nil]; omega)
theorem flat_len (v : InV) (s : List Int) : (s.flatMap (letB v)).length ≤ 8 * s.length := by
  induction s with
  | nil => exact Nat.le_refl _
  | cons l s ih =>
    have := letB_len v l
    rw [List.flatMap_cons, List.length_append, List.length_cons]
    omega
theorem lts_at {s : ByteArray} {k : Nat} (hk : k < s.size) : ∃ h : k < (lts s).length, (lts s)[k] = (s[k].toNat : Int) := by
  refine ⟨by simpa [lts] using hk, ?_⟩
  simp [lts, ByteArray.getElem_eq_getElem_data]
theorem flat_next (v : InV) (s : ByteArray) {k : Nat} (hk : k < s.size) : ((lts s).take (k + 1)).flatMap (letB v) = ((lts s).take k).flatMap (letB v) ++ letB v (s[k].toNat : Int) := by
  obtain ⟨h, e⟩ := lts_at hk
  rw [flat_succ v _ k h, e]
end Cc

set_option maxRecDepth 100000 in
set_option maxHeartbeats 8000000 in
theorem rencode4_any (v : InV) (w : World) :
    Calls Tryd.prog 11 #[inst v] w fun e w' => ∃ x, e = .returned x ∧ OwnL w' w.heap.size x (Cc.enc v) ∧ w.grownBy w' none := by
  unfold inst
  have hsz := Cc.rowS_size v.op
  have HR : Hid (∀ W, Calls Tryd.prog 18 #[.int .i64 v.op] W fun e w' => e = .returned (.string (Cc.rowS v.op)) ∧ w' = W) := rrow_any v.op
  have HE : Hid (Cc.enc v = v.op % 256 :: (Cc.lts (Cc.rowS v.op)).flatMap (Cc.letB v)) := by rw [Cc.lts_row]; exact rfl
  have HL : Hid (∀ k, k ≤ 4 → (v.op % 256 :: ((Cc.lts (Cc.rowS v.op)).take k).flatMap (Cc.letB v)).length ≤ 100) := fun k hk => by
    have := Cc.flat_len v ((Cc.lts (Cc.rowS v.op)).take k)
    have h2 : ((Cc.lts (Cc.rowS v.op)).take k).length ≤ 4 := Nat.le_trans (List.length_take_le _ _) hk
    rw [List.length_cons]; omega
  generalize Cc.rowS v.op = s at *
  go_enter Tryd.func11, Tryd.ntmps11
  go_wp2_with (first
    | (go_at_call 18; refine (HR.out _).mono ?_; rintro e w1 ⟨rfl, rfl⟩)
    | (go_at_call 32; refine (rsize_any _ _).mono ?_; rintro e w2 ⟨rfl, rfl⟩))
  obtain ⟨W1, hW1⟩ : ∃ W1, W1 = w.alloc (Obj.cells #[.int .i64 v.op, .int .i64 v.a, .int .i64 v.b, .int .i64 v.c, .int .i64 v.k, .int .i64 v.sub, .int .i64 v.scale, .int .i64 v.imm, .int .i64 v.label] 28) := ⟨_, rfl⟩
  have s1 : W1.heap.size = w.heap.size + 1 := by rw [hW1, size_alloc]
  have IA : InstAt W1 w.heap.size v := by rw [hW1]; exact InstAt.new w v
  have GW : w.grownBy W1 none := by rw [hW1]; exact World.grownBy_alloc _ _ _
  have O0 : OwnL (W1.alloc (Obj.cells #[.int .u8 (v.op % 256)] 5)) W1.heap.size (.slice (some ⟨W1.heap.size, 0, none⟩) 1 1) [v.op % 256] := OwnL.lit W1 W1.heap.size [v.op % 256] (Nat.le_refl _) (by show 1 ≤ maxLen; unfold maxLen; omega)
  have B1 : Below W1.heap.size W1 (W1.alloc (Obj.cells #[.int .u8 (v.op % 256)] 5)) := (Below.refl W1.heap.size W1).alloc (Nat.le_refl _) _
  rw [← hW1]
  have O1 := O0
  rw [s1] at O1
  generalize W1.alloc (Obj.cells #[.int .u8 (v.op % 256)] 5) = W3 at *
  rw [← s1] at O1
  clear HR O0 hW1
  go_loopw [4, 6] (fun u j wr => ∃ k : Nat, k ≤ s.size ∧ j = .int .i64 k ∧ OwnL wr W1.heap.size u (v.op % 256 :: ((Cc.lts s).take k).flatMap (Cc.letB v)) ∧ Below W1.heap.size W1 wr) (fun _ j _ => s.size - (intOf j).toNat)
  case atStart => exact ⟨0, Nat.zero_le _, rfl, by rw [s1] at *; exact O1, B1⟩
  case round =>
    clear O1 B1
    obtain ⟨k, hk, rfl, hv0, hbel0⟩ := hrel
    have hlen0 := HL.out k (by omega)
    have hlen : (v.op % 256 :: ((Cc.lts s).take k).flatMap (Cc.letB v)).length ≤ 1000 := by omega
    by_cases hlt : k < s.size
    · have HS : Hid (∀ X, X = Cc.letB v (s[k].toNat : Int) → v.op % 256 :: ((Cc.lts s).take (k + 1)).flatMap (Cc.letB v) = (v.op % 256 :: ((Cc.lts s).take k).flatMap (Cc.letB v)) ++ X) := fun X hX => by
        rw [Cc.flat_next v s hlt, hX]; rfl
      generalize v.op % 256 :: ((Cc.lts s).take k).flatMap (Cc.letB v) = S at *
      obtain ⟨ao, cp, rfl, _⟩ := hv0.toB.shape
      have hv : Hid (OwnL wr W1.heap.size (.slice ao S.length cp) S) := hv0
      have hbel : Hid (Below W1.heap.size W1 wr) := hbel0
      have hsz : W1.heap.size ≤ wr.heap.size := hbel0.size
      obtain ⟨x0, x1, x2, x3, x4, x5, x6, x7, x8, xz⟩ := IA.below hbel0 (by omega)
      clear hv0 hbel0 xz
      generalize hl : (s[k].toNat : Int) = l at *
      have hc : l = 97 ∨ l = 110 ∨ l = 106 ∨ l = 74 ∨ l = 99 ∨ l = 75 ∨ l = 83 ∨ l = 105 ∨ l = 52 ∨ ((l == 97) = false ∧ (l == 110) = false ∧ (l == 106) = false ∧ (l == 74) = false ∧ (l == 99) = false ∧ (l == 75) = false ∧ (l == 83) = false ∧ (l == 105) = false ∧ (l == 52) = false) := by
        simp only [beq_eq_false_iff_ne, ne_eq]; omega
      rcases hc with rfl | rfl | rfl | rfl | rfl | rfl | rfl | rfl | rfl | hc
      · go_wp2_with (first
            | (at_builtin; refine wp_app1 rfl _ _ rfl W1.heap.size (.slice ao S.length cp) S _ rfl hv.out rfl hlen hsz ?_; intro v' w4 ho4 hg4))
        exact ⟨⟨k + 1, by omega, by go_num, ho4.cast (HS.out _ (by show [_] = [_]; congr 1; simp only [wrap64]; omega)), hbel.out.grown hg4 hsz hv.out.base⟩, by simp [intOf]; omega⟩
      · go_wp2_with (first
            | (at_builtin; refine wp_app1 rfl _ _ rfl W1.heap.size (.slice ao S.length cp) S _ rfl hv.out rfl hlen hsz ?_; intro v' w4 ho4 hg4))
        exact ⟨⟨k + 1, by omega, by go_num, ho4.cast (HS.out _ (by show [_] = [_]; congr 1; simp only [wrap64]; omega)), hbel.out.grown hg4 hsz hv.out.base⟩, by simp [intOf]; omega⟩
      · go_wp2_with (first
            | (at_builtin; refine wp_app1 rfl _ _ rfl W1.heap.size (.slice ao S.length cp) S _ rfl hv.out rfl hlen hsz ?_; intro v' w4 ho4 hg4))
        exact ⟨⟨k + 1, by omega, by go_num, ho4.cast (HS.out _ rfl), hbel.out.grown hg4 hsz hv.out.base⟩, by simp [intOf]; omega⟩
      · go_wp2_with (first
            | (at_builtin; refine wp_app1 rfl _ _ rfl W1.heap.size (.slice ao S.length cp) S _ rfl hv.out rfl hlen hsz ?_; intro v' w4 ho4 hg4))
        exact ⟨⟨k + 1, by omega, by go_num, ho4.cast (HS.out _ (by show [_] = [_]; congr 1; simp only [wrap64]; omega)), hbel.out.grown hg4 hsz hv.out.base⟩, by simp [intOf]; omega⟩
      · go_wp2_with fail
        go_region_law (first
          | (refine step_fn 33 #[.int .i64 v.scale] rfl rfl (by kernel_rfl) (rlog_any v.scale _) ?_)
          | (refine step_app1d rfl _ _ rfl W1.heap.size (.slice ao S.length cp) S _ rfl (by exact hv.out) rfl hlen hsz ?_; intro v' w4 ho4 hg4))
        all_goals
          go_wp2
          exact ⟨⟨k + 1, by omega, by go_num, ho4.cast (HS.out _ (by show [_] = [_]; congr 1; first | (simp only [wrap64]; omega) | (simp only [IntKind.wrap_i64, IntKind.wrap_u8]; omega) | omega)), hbel.out.drew.grown hg4 hsz hv.out.base⟩, by simp [intOf]; omega⟩
      · go_wp2_with (first
            | (at_builtin; refine wp_app1 rfl _ _ rfl W1.heap.size (.slice ao S.length cp) S _ rfl hv.out rfl hlen hsz ?_; intro v' w4 ho4 hg4))
        exact ⟨⟨k + 1, by omega, by go_num, ho4.cast (HS.out _ rfl), hbel.out.grown hg4 hsz hv.out.base⟩, by simp [intOf]; omega⟩
      · go_wp2_with (first
            | (at_builtin; refine wp_app1 rfl _ _ rfl W1.heap.size (.slice ao S.length cp) S _ rfl hv.out rfl hlen hsz ?_; intro v' w4 ho4 hg4))
        exact ⟨⟨k + 1, by omega, by go_num, ho4.cast (HS.out _ rfl), hbel.out.grown hg4 hsz hv.out.base⟩, by simp [intOf]; omega⟩
      · go_wp2_with fail
        refine tail_quiet 5 (by kernel_rfl) (by kernel_rfl) ?_
        have hv3 : Hid (OwnL wr.drew W1.heap.size (.slice ao S.length cp) S) := hv.out
        have hb3 : Hid (Below W1.heap.size W1 wr.drew) := hbel.out.drew
        have hz3 : W1.heap.size ≤ wr.drew.heap.size := hsz
        have y7 : wr.drew.cell? ⟨w.heap.size, 7, none⟩ = some (.int .i64 v.imm) := x7
        clear x0 x1 x2 x3 x4 x5 x6 x7 x8 hv hbel hsz
        generalize wr.drew = W8 at *
        simp only [List.take_succ_cons, List.take_zero, List.drop_succ_cons, List.drop_zero]
        repeat (go_big_quiet_step (exact rbytes4_any _ _ _))
        refine wpQuiet_nil ?_
        go_wp2_with (first
          | (go_at_call 34; refine (rlow_any (c := Cc.cnt (Cc.size v.imm)) (by have := cnt_c (z := Cc.size v.imm); omega) v.imm hv3.out (by omega) hz3).mono ?_; rintro e w4 ⟨v', rfl, ho4, hb4⟩))
        exact ⟨⟨k + 1, by omega, by go_num, ho4.cast (HS.out _ rfl), hb3.out.trans hb4⟩, by simp [intOf]; omega⟩
      · go_wp2_with (first
            | (go_at_call 34; refine (rlow_any (c := 4) (by decide) v.imm hv.out (by omega) hsz).mono ?_; rintro e w4 ⟨v', rfl, ho4, hb4⟩))
        exact ⟨⟨k + 1, by omega, by go_num, ho4.cast (HS.out _ rfl), hbel.out.trans hb4⟩, by simp [intOf]; omega⟩
      · have HL0 : Cc.letB v l = [] := by
          simp only [beq_eq_false_iff_ne, ne_eq] at hc
          unfold Cc.letB
          simp [hc]
        have HL2 : Hid (Cc.letB v l = []) := HL0
        clear HL0
        obtain ⟨a1, a2, a3, a4, a5, a6, a7, a8, a9⟩ := hc
        go_wp2
        exact ⟨⟨k + 1, by omega, by go_num, hv.out.cast (by rw [HS.out [] HL2.out.symm, List.append_nil]), hbel.out⟩, by simp [intOf]; omega⟩
    · obtain rfl : k = s.size := by omega
      have HT : Hid ((Cc.lts s).take s.size = Cc.lts s) := by
        have : (Cc.lts s).length = s.size := by unfold Cc.lts; rw [List.length_map]; rfl
        rw [← this]
        exact List.take_length
      go_wp2
      go_ret
      have GB := below_grown hbel0
      exact ⟨_, rfl, by rw [HE.out, ← HT.out]; exact hv0.low (by omega), grown_trans GW GB⟩
end Go.Proofs.YtbghjlamedlchaaDoor
