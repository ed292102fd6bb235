/- Contracts and plain facts that the walks share. -/
import Derived.Test.YtkiockffejlnhaaGreatDoorCfMa
import Derived.Test.YtkiockffejlnhaaGreatDoorCfMb
import Derived.Test.YtkiockffejlnhaaGreatDoorCfMc
import Derived.Test.YtkiockffejlnhaaGreatDoorCfMd
import Derived.Test.YtkiockffejlnhaaGreatDoorLkLink
import Derived.Test.YtkiockffejlnhaaGreatDoorG18
import Derived.Test.YtkiockffejlnhaaGreatDoorCdWr
import Derived.Test.YtkiockffejlnhaaGreatDoorG11
import Derived.Deep.Slices
import Derived.OpenShut
import Derived.SizedLaws
import Derived.Laws.AppendOwnNone
namespace Go.Proofs.YtkiockffejlnhaaGreatDoor
set_option maxRecDepth 100000
set_option maxHeartbeats 32000000
open Go.RowKit
set_option linter.unusedVariables false
theorem rmay_none (v : InV) (w : World) (h : Cc.rowS v.op = ⟨#[]⟩) :
  Calls Tryz.prog 69 #[inst v] w fun e w' => e = .returned (.bool false) ∧ w.grownBy w' none := by
 have HR : Hid (∀ W, Calls Tryz.prog 72 #[.int .i64 v.op] W fun e w' => e = .returned (.string ⟨#[]⟩) ∧ w' = W) := fun W => by rw [← h]; exact rrow_any v.op W
 unfold inst
 go_enter Tryz.func69, Tryz.ntmps69
 simp only [List.append]
 go_wp2_with (go_at_call 72; refine (HR.out _).mono ?_; rintro e w' ⟨rfl, rfl⟩)
 go_ret
 exact ⟨rfl, gal⟩
theorem rmay4_any (v : InV) (w : World) (h1 : -9223372036854775808 ≤ v.imm) (h2 : v.imm ≤ 9223372036854775807) :
  Calls Tryz.prog 69 #[inst v] w fun e w' => e = .returned (.bool (Cc.mayB v)) ∧ w.grownBy w' none := by
 have ho := Cc.ops v.op
 obtain ⟨op, a, b, c, k, sub, sc, imm, lb⟩ := v
 dsimp only at h1 h2 ho
 rcases ho with rfl | rfl | rfl | rfl | rfl | rfl | rfl | rfl | rfl | rfl | rfl | rfl | rfl | rfl | rfl | rfl | rfl | rfl | rfl | rfl | rfl | rfl | rfl | rfl | rfl | h
 ·exact rmay_1 a b c k sub sc imm lb w h1 h2
 ·exact rmay_3 a b c k sub sc imm lb w h1 h2
 ·exact rmay_4 a b c k sub sc imm lb w h1 h2
 ·exact rmay_5 a b c k sub sc imm lb w h1 h2
 ·exact rmay_6 a b c k sub sc imm lb w h1 h2
 ·exact rmay_7 a b c k sub sc imm lb w h1 h2
 ·exact rmay_8 a b c k sub sc imm lb w h1 h2
 ·exact rmay_10 a b c k sub sc imm lb w h1 h2
 ·exact rmay_11 a b c k sub sc imm lb w h1 h2
 ·exact rmay_12 a b c k sub sc imm lb w h1 h2
 ·exact rmay_13 a b c k sub sc imm lb w h1 h2
 ·exact rmay_14 a b c k sub sc imm lb w h1 h2
 ·exact rmay_15 a b c k sub sc imm lb w h1 h2
 ·exact rmay_16 a b c k sub sc imm lb w h1 h2
 ·exact rmay_17 a b c k sub sc imm lb w h1 h2
 ·exact rmay_18 a b c k sub sc imm lb w h1 h2
 ·exact rmay_19 a b c k sub sc imm lb w h1 h2
 ·exact rmay_22 a b c k sub sc imm lb w h1 h2
 ·exact rmay_23 a b c k sub sc imm lb w h1 h2
 ·exact rmay_24 a b c k sub sc imm lb w h1 h2
 ·exact rmay_25 a b c k sub sc imm lb w h1 h2
 ·exact rmay_26 a b c k sub sc imm lb w h1 h2
 ·exact rmay_27 a b c k sub sc imm lb w h1 h2
 ·exact rmay_28 a b c k sub sc imm lb w h1 h2
 ·exact rmay_29 a b c k sub sc imm lb w h1 h2
 ·have hm : Cc.mayB ⟨op, a, b, c, k, sub, sc, imm, lb⟩ = false := by
   unfold Cc.mayB
   rw [(Cc.row_none h).1]
   rfl
  rw [hm]
  exact rmay_none _ w (Cc.rowS_none h)
theorem rjumps_any (op : Int) (w : World) : Calls Tryz.prog 30 #[.int .i64 op] w fun e w' => e = .returned (.bool (Lk.jmpB op)) ∧ w' = w := by
 have hc : op = 19 ∨ op = 20 ∨ op = 21 ∨ op = 22 ∨ (Lk.jmpB op = false ∧ (op == 19) = false ∧ (op == 20) = false ∧ (op == 21) = false ∧ (op == 22) = false) := by
  unfold Lk.jmpB
  cases h1 : op == 19 <;> cases h2 : op == 20 <;> cases h3 : op == 21 <;> cases h4 : op == 22 <;> simp_all
 rcases hc with rfl | rfl | rfl | rfl | ⟨e, h1, h2, h3, h4⟩
 case inr.inr.inr.inr =>
  rw [e]
  clear e
  go_enter Tryz.func30, Tryz.ntmps30
  go_wp2
  go_ret
  exact ⟨rfl, rfl⟩
 all_goals (
  go_enter Tryz.func30, Tryz.ntmps30
  go_wp2
  go_ret
  exact ⟨rfl, rfl⟩)
theorem ris6_any {t : Int} (ht : t = 1 ∨ t = 2) (v : InV) (w : World) (hr : InRng v) : Calls Tryz.prog 50 #[.int .i64 t, .agg #[.int .i64 v.op, .int .i64 v.a, .int .i64 v.b, .int .i64 v.c, .int .i64 v.k, .int .i64 v.sub, .int .i64 v.scale, .int .i64 v.imm, .int .i64 v.label]] w fun e w' => e = .returned (.bool (Ru.mayT t v)) ∧ w.grownBy w' none := by
 have hA := World.grownBy_alloc w (Obj.cells #[.int .i64 v.op, .int .i64 v.a, .int .i64 v.b, .int .i64 v.c, .int .i64 v.k, .int .i64 v.sub, .int .i64 v.scale, .int .i64 v.imm, .int .i64 v.label] 50) none
 rcases ht with rfl | rfl
 ·have H3 : Hid (∀ W, Calls Tryz.prog 68 #[.agg #[.int .i64 v.op, .int .i64 v.a, .int .i64 v.b, .int .i64 v.c, .int .i64 v.k, .int .i64 v.sub, .int .i64 v.scale, .int .i64 v.imm, .int .i64 v.label]] W fun e w' => e = .returned (.bool (Ru.mayT 1 v)) ∧ W.grownBy w' none) := fun W => rmay_any v W
  go_enter Tryz.func50, Tryz.ntmps50
  go_wp2_with (go_at_call 68; refine (H3.out _).mono ?_; rintro e w1 ⟨rfl, g1⟩)
  go_ret
  exact ⟨rfl, gtr hA g1⟩
 ·have H4 : Hid (∀ W, Calls Tryz.prog 69 #[.agg #[.int .i64 v.op, .int .i64 v.a, .int .i64 v.b, .int .i64 v.c, .int .i64 v.k, .int .i64 v.sub, .int .i64 v.scale, .int .i64 v.imm, .int .i64 v.label]] W fun e w' => e = .returned (.bool (Ru.mayT 2 v)) ∧ W.grownBy w' none) := fun W => rmay4_any v W hr.i1 hr.i2
  go_enter Tryz.func50, Tryz.ntmps50
  go_wp2_with (go_at_call 69; refine (H4.out _).mono ?_; rintro e w1 ⟨rfl, g1⟩)
  go_ret
  exact ⟨rfl, gtr hA g1⟩
namespace Lk
theorem may_label (t : Int) (v : InV) : Ru.mayT t v = (v.label == 0 && Ru.mayT t (bare v)) := by
 cases h : v.label == 0
 ·have h' : ¬ v.label = 0 := by simpa using h
  unfold Ru.mayT
  split
  ·unfold Rc.mayB; simp [h']
  ·unfold Cc.mayB; simp [h']
 ·have : v.label = 0 := by simpa using h
  rw [bare_label this]
  rfl
theorem lab_no {m p : Int} {v : InV} (hj : jmpB v.op = true) (h : v.label < 0 ∨ m ≤ v.label ∨ v.imm ≠ 0) : labB m p v = false := by
 cases hl : labB m p v
 ·rfl
 ·have := lab_jmp hl hj
  omega
theorem lab_noc {m p : Int} {v : InV} (hc : v.op = 23) (h : v.label < 0 ∨ p ≤ v.label ∨ v.imm ≠ 0) : labB m p v = false := by
 cases hl : labB m p v
 ·rfl
 ·have := lab_call hl hc
  omega
theorem lab_yes {m p : Int} {v : InV} (h : (jmpB v.op = true ∧ v.label < m) ∨ (v.op = 23 ∧ v.label < p)) (h0 : 0 ≤ v.label) (hi : v.imm = 0) : labB m p v = true := by
 unfold labB
 rcases h with ⟨hj, hm⟩ | ⟨hc, hm⟩
 ·rw [if_pos hj]; simp [h0, hi, hm]
 ·rw [if_neg (by rw [hc]; decide), if_pos hc]; simp [h0, hi, hm]
end Lk
theorem rinst6_any {t : Int} (ht : t = 1 ∨ t = 2) (v : InV) (m p : Nat) (w : World) (hr : InRng v) : Calls Tryz.prog 27 #[.int .i64 t, .agg #[.int .i64 v.op, .int .i64 v.a, .int .i64 v.b, .int .i64 v.c, .int .i64 v.k, .int .i64 v.sub, .int .i64 v.scale, .int .i64 v.imm, .int .i64 v.label], .int .i64 m, .int .i64 p] w fun e w' => e = .returned (.bool (Lk.instB t m p v)) ∧ w.grownBy w' none := by
 have hrb : InRng (Lk.bare v) := ⟨hr.i1, hr.i2, hr.s1, hr.s2⟩
 obtain ⟨op, a, b, c, k, sub, sc, imm, lb⟩ := v
 simp only at *
 have HJ : Hid (∀ W, Calls Tryz.prog 30 #[.int .i64 op] W fun e w' => e = .returned (.bool (Lk.jmpB op)) ∧ w' = W) := fun W => rjumps_any op W
 have hA := World.grownBy_alloc w (Obj.cells #[.int .i64 op, .int .i64 a, .int .i64 b, .int .i64 c, .int .i64 k, .int .i64 sub, .int .i64 sc, .int .i64 imm, .int .i64 lb] 50) none
 obtain ⟨R, hR⟩ : ∃ R, R = Lk.instB t m p ⟨op, a, b, c, k, sub, sc, imm, lb⟩ := ⟨_, rfl⟩
 rw [← hR]
 cases hj : Lk.jmpB op
 ·rw [hj] at HJ
  cases hc : op == 23
  ·have hc' : ¬ op = 23 := by simpa using hc
   have e : R = Ru.mayT t ⟨op, a, b, c, k, sub, sc, imm, lb⟩ := by
    rw [hR, Lk.may_label]
    unfold Lk.instB Lk.labB
    rw [if_neg (by simp only; rw [hj]; decide), if_neg hc']
   have HI : Hid (∀ W, Calls Tryz.prog 50 #[.int .i64 t, .agg #[.int .i64 op, .int .i64 a, .int .i64 b, .int .i64 c, .int .i64 k, .int .i64 sub, .int .i64 sc, .int .i64 imm, .int .i64 lb]] W fun e w' => e = .returned (.bool R) ∧ W.grownBy w' none) := fun W => by rw [e]; exact ris6_any ht _ W hr
   clear e hR hc' hj
   go_enter Tryz.func27, Tryz.ntmps27
   go_wp2_with (first | (go_at_call 30; refine (HJ.out _).mono ?_; rintro e w1 ⟨rfl, hw1⟩; rw [hw1]; clear hw1 w1) | (go_at_call 50; refine (HI.out _).mono ?_; rintro e w2 ⟨rfl, g2⟩))
   go_ret
   exact ⟨rfl, gtr hA g2⟩
  ·have hc' : op = 23 := by simpa using hc
   subst hc'
   by_cases hbad : lb < 0 ∨ (p : Int) ≤ lb ∨ imm ≠ 0
   ·have e : R = false := by rw [hR]; unfold Lk.instB; rw [Lk.lab_noc rfl hbad]; rfl
    subst e
    clear hR hj hc
    rcases (show lb < 0 ∨ (0 ≤ lb ∧ (p : Int) ≤ lb) ∨ (0 ≤ lb ∧ lb < p ∧ imm ≠ 0) from by omega) with h1 | ⟨h1, h2⟩ | ⟨h1, h2, h3⟩
    ·go_enter Tryz.func27, Tryz.ntmps27
     go_wp2_with (go_at_call 30; refine (HJ.out _).mono ?_; rintro e w1 ⟨rfl, hw1⟩; rw [hw1]; clear hw1 w1)
     all_goals first | (go_ret; exact ⟨rfl, hA⟩) | (exfalso; omega)
    ·go_enter Tryz.func27, Tryz.ntmps27
     go_wp2_with (go_at_call 30; refine (HJ.out _).mono ?_; rintro e w1 ⟨rfl, hw1⟩; rw [hw1]; clear hw1 w1)
     all_goals first | (go_ret; exact ⟨rfl, hA⟩) | (exfalso; omega)
    ·have h3' : (imm != 0) = true := by simpa using h3
     have d1 : decide (lb < 0) = false := by simp; omega
     have d2 : decide ((p : Int) ≤ lb) = false := by simp; omega
     have d3 : (0 : Int) < p := by omega
     go_enter Tryz.func27, Tryz.ntmps27
     go_wp2_with (go_at_call 30; refine (HJ.out _).mono ?_; rintro e w1 ⟨rfl, hw1⟩; rw [hw1]; clear hw1 w1)
     all_goals first | (go_ret; exact ⟨rfl, hA⟩) | (exfalso; omega)
   ·have hi0 : imm = 0 := by omega
    subst hi0
    have e : R = Ru.mayT t (Lk.bare ⟨23, a, b, c, k, sub, sc, 0, lb⟩) := by rw [hR]; unfold Lk.instB; rw [Lk.lab_yes (.inr ⟨rfl, by simp only; omega⟩) (by simp only; omega) rfl]; rfl
    have HI : Hid (∀ W, Calls Tryz.prog 50 #[.int .i64 t, .agg #[.int .i64 23, .int .i64 a, .int .i64 b, .int .i64 c, .int .i64 k, .int .i64 sub, .int .i64 sc, .int .i64 0, .int .i64 0]] W fun e w' => e = .returned (.bool R) ∧ W.grownBy w' none) := fun W => by rw [e]; exact ris6_any ht _ W hrb
    have h1 : 0 ≤ lb := by omega
    have h2 : lb < p := by omega
    have hp0 : (0 : Int) < p := by omega
    have d1 : decide (lb < 0) = false := by simp; omega
    have d2 : decide ((p : Int) ≤ lb) = false := by simp; omega
    clear e hR hj hc hbad
    go_enter Tryz.func27, Tryz.ntmps27
    go_wp2_with (first | (go_at_call 30; refine (HJ.out _).mono ?_; rintro e w1 ⟨rfl, hw1⟩; rw [hw1]; clear hw1 w1) | (go_at_call 50; refine (HI.out _).mono ?_; rintro e w2 ⟨rfl, g2⟩))
    all_goals first | (go_ret; exact ⟨rfl, gtr gal g2⟩) | (exfalso; omega)
 ·rw [hj] at HJ
  have hop : (op == 23) = false := by
   have := Lk.jmpB_iff.1 hj
   simp
   omega
  by_cases hbad : lb < 0 ∨ (m : Int) ≤ lb ∨ imm ≠ 0
  ·have e : R = false := by rw [hR]; unfold Lk.instB; rw [Lk.lab_no hj hbad]; rfl
   subst e
   clear hR hj
   rcases (show lb < 0 ∨ (0 ≤ lb ∧ (m : Int) ≤ lb) ∨ (0 ≤ lb ∧ lb < m ∧ imm ≠ 0) from by omega) with h1 | ⟨h1, h2⟩ | ⟨h1, h2, h3⟩
   ·go_enter Tryz.func27, Tryz.ntmps27
    go_wp2_with (go_at_call 30; refine (HJ.out _).mono ?_; rintro e w1 ⟨rfl, hw1⟩; rw [hw1]; clear hw1 w1)
    all_goals first | (go_ret; exact ⟨rfl, hA⟩) | (exfalso; omega)
   ·go_enter Tryz.func27, Tryz.ntmps27
    go_wp2_with (go_at_call 30; refine (HJ.out _).mono ?_; rintro e w1 ⟨rfl, hw1⟩; rw [hw1]; clear hw1 w1)
    all_goals first | (go_ret; exact ⟨rfl, hA⟩) | (exfalso; omega)
   ·have h3' : (imm != 0) = true := by simpa using h3
    have d1 : decide (lb < 0) = false := by simp; omega
    have d2 : decide ((m : Int) ≤ lb) = false := by simp; omega
    have d3 : (0 : Int) < m := by omega
    go_enter Tryz.func27, Tryz.ntmps27
    go_wp2_with (go_at_call 30; refine (HJ.out _).mono ?_; rintro e w1 ⟨rfl, hw1⟩; rw [hw1]; clear hw1 w1)
    all_goals first | (go_ret; exact ⟨rfl, hA⟩) | (exfalso; omega)
  ·have hi0 : imm = 0 := by omega
   subst hi0
   have e : R = Ru.mayT t (Lk.bare ⟨op, a, b, c, k, sub, sc, 0, lb⟩) := by rw [hR]; unfold Lk.instB; rw [Lk.lab_yes (.inl ⟨hj, by simp only; omega⟩) (by simp only; omega) rfl]; rfl
   have HI : Hid (∀ W, Calls Tryz.prog 50 #[.int .i64 t, .agg #[.int .i64 op, .int .i64 a, .int .i64 b, .int .i64 c, .int .i64 k, .int .i64 sub, .int .i64 sc, .int .i64 0, .int .i64 0]] W fun e w' => e = .returned (.bool R) ∧ W.grownBy w' none) := fun W => by rw [e]; exact ris6_any ht _ W hrb
   have h1 : 0 ≤ lb := by omega
   have h2 : lb < m := by omega
   have hp0 : (0 : Int) < m := by omega
   have d1 : decide (lb < 0) = false := by simp; omega
   have d2 : decide ((m : Int) ≤ lb) = false := by simp; omega
   clear e hR hj hbad
   go_enter Tryz.func27, Tryz.ntmps27
   go_wp2_with (first | (go_at_call 30; refine (HJ.out _).mono ?_; rintro e w1 ⟨rfl, hw1⟩; rw [hw1]; clear hw1 w1) | (go_at_call 50; refine (HI.out _).mono ?_; rintro e w2 ⟨rfl, g2⟩))
   all_goals first | (go_ret; exact ⟨rfl, gtr gal g2⟩) | (exfalso; omega)
namespace Cc
theorem letB_len (v : InV) (l : Int) : (letB v l).length ≤ 8 := by
  have hc := cnt_c (z := size v.imm)
  unfold letB
  repeat' split
  all_goals first | (rw [low_len]; omega) | (simp only [List.length_cons, List.length_nil]; omega)
theorem flat_len (v : InV) (s : List Int) : (s.flatMap (letB v)).length ≤ 8 * s.length := by
  induction s with
  | nil => exact Nat.le_refl _
  | cons l s ih =>
    have := letB_len v l
    rw [List.flatMap_cons, List.length_append, List.length_cons]
    omega
theorem lts_at {s : ByteArray} {k : Nat} (hk : k < s.size) : ∃ h : k < (lts s).length, (lts s)[k] = (s[k].toNat : Int) := by
  refine ⟨by simpa [lts] using hk, ?_⟩
  simp [lts, ByteArray.getElem_eq_getElem_data]
theorem flat_next (v : InV) (s : ByteArray) {k : Nat} (hk : k < s.size) : ((lts s).take (k + 1)).flatMap (letB v) = ((lts s).take k).flatMap (letB v) ++ letB v (s[k].toNat : Int) := by
  obtain ⟨h, e⟩ := lts_at hk
  rw [flat_succ v _ k h, e]
end Cc
theorem rencode4_any (v : InV) (w : World) :
    Calls Tryz.prog 54 #[inst v] w fun e w' => ∃ x, e = .returned x ∧ OwnL w' w.heap.size x (Cc.enc v) ∧ w.grownBy w' none := by
  unfold inst
  have hsz := Cc.rowS_size v.op
  have HR : Hid (∀ W, Calls Tryz.prog 72 #[.int .i64 v.op] W fun e w' => e = .returned (.string (Cc.rowS v.op)) ∧ w' = W) := rrow_any v.op
  have HE : Hid (Cc.enc v = v.op % 256 :: (Cc.lts (Cc.rowS v.op)).flatMap (Cc.letB v)) := by rw [Cc.lts_row]; exact rfl
  have HL : Hid (∀ k, k ≤ 4 → (v.op % 256 :: ((Cc.lts (Cc.rowS v.op)).take k).flatMap (Cc.letB v)).length ≤ 100) := fun k hk => by
    have := Cc.flat_len v ((Cc.lts (Cc.rowS v.op)).take k)
    have h2 : ((Cc.lts (Cc.rowS v.op)).take k).length ≤ 4 := Nat.le_trans (List.length_take_le _ _) hk
    rw [List.length_cons]; omega
  generalize Cc.rowS v.op = s at *
  go_enter Tryz.func54, Tryz.ntmps54
  go_wp2_with (first
    | (go_at_call 72; refine (HR.out _).mono ?_; rintro e w1 ⟨rfl, rfl⟩)
    | (go_at_call 52; refine (rsize_any _ _).mono ?_; rintro e w2 ⟨rfl, rfl⟩))
  obtain ⟨W1, hW1⟩ : ∃ W1, W1 = w.alloc (Obj.cells #[.int .i64 v.op, .int .i64 v.a, .int .i64 v.b, .int .i64 v.c, .int .i64 v.k, .int .i64 v.sub, .int .i64 v.scale, .int .i64 v.imm, .int .i64 v.label] 50) := ⟨_, rfl⟩
  have s1 : W1.heap.size = w.heap.size + 1 := by rw [hW1, size_alloc]
  have IA : InstAt W1 w.heap.size v := by rw [hW1]; exact InstAt.new w v
  have GW : w.grownBy W1 none := by rw [hW1]; exact gal
  have O0 : OwnL (W1.alloc (Obj.cells #[.int .u8 (v.op % 256)] 5)) W1.heap.size (.slice (some ⟨W1.heap.size, 0, none⟩) 1 1) [v.op % 256] := OwnL.lit W1 W1.heap.size [v.op % 256] (Nat.le_refl _) (by show 1 ≤ maxLen; unfold maxLen; omega)
  have B1 : Below W1.heap.size W1 (W1.alloc (Obj.cells #[.int .u8 (v.op % 256)] 5)) := (Below.refl W1.heap.size W1).alloc (Nat.le_refl _) _
  rw [← hW1]
  have O1 := O0
  rw [s1] at O1
  generalize W1.alloc (Obj.cells #[.int .u8 (v.op % 256)] 5) = W3 at *
  rw [← s1] at O1
  clear HR O0 hW1
  go_loopw [4, 6] (fun u j wr => ∃ k : Nat, k ≤ s.size ∧ j = .int .i64 k ∧ OwnL wr W1.heap.size u (v.op % 256 :: ((Cc.lts s).take k).flatMap (Cc.letB v)) ∧ Below W1.heap.size W1 wr) (fun _ j _ => s.size - (intOf j).toNat)
  case atStart => exact ⟨0, Nat.zero_le _, rfl, by rw [s1] at *; exact O1, B1⟩
  case round =>
    clear O1 B1
    obtain ⟨k, hk, rfl, hv0, hbel0⟩ := hrel
    have hlen0 := HL.out k (by omega)
    have hlen : (v.op % 256 :: ((Cc.lts s).take k).flatMap (Cc.letB v)).length ≤ 1000 := by omega
    by_cases hlt : k < s.size
    · have HS : Hid (∀ X, X = Cc.letB v (s[k].toNat : Int) → v.op % 256 :: ((Cc.lts s).take (k + 1)).flatMap (Cc.letB v) = (v.op % 256 :: ((Cc.lts s).take k).flatMap (Cc.letB v)) ++ X) := fun X hX => by
        rw [Cc.flat_next v s hlt, hX]; rfl
      generalize v.op % 256 :: ((Cc.lts s).take k).flatMap (Cc.letB v) = S at *
      obtain ⟨ao, cp, rfl, _⟩ := hv0.toB.shape
      have hv : Hid (OwnL wr W1.heap.size (.slice ao S.length cp) S) := hv0
      have hbel : Hid (Below W1.heap.size W1 wr) := hbel0
      have hsz : W1.heap.size ≤ wr.heap.size := hbel0.size
      obtain ⟨x0, x1, x2, x3, x4, x5, x6, x7, x8, xz⟩ := IA.below hbel0 (by omega)
      clear hv0 hbel0 xz
      generalize hl : (s[k].toNat : Int) = l at *
      have hc : l = 97 ∨ l = 110 ∨ l = 106 ∨ l = 74 ∨ l = 99 ∨ l = 75 ∨ l = 83 ∨ l = 105 ∨ l = 52 ∨ ((l == 97) = false ∧ (l == 110) = false ∧ (l == 106) = false ∧ (l == 74) = false ∧ (l == 99) = false ∧ (l == 75) = false ∧ (l == 83) = false ∧ (l == 105) = false ∧ (l == 52) = false) := by
        simp only [beq_eq_false_iff_ne, ne_eq]; omega
      rcases hc with rfl | rfl | rfl | rfl | rfl | rfl | rfl | rfl | rfl | hc
      · go_wp2_with (first
            | (at_builtin; refine wp_app1 rfl _ _ rfl W1.heap.size (.slice ao S.length cp) S _ rfl hv.out rfl hlen hsz ?_; intro v' w4 ho4 hg4))
        exact ⟨⟨k + 1, by omega, by go_num, ho4.cast (HS.out _ (by show [_] = [_]; congr 1; simp only [wrap64]; omega)), hbel.out.grown hg4 hsz hv.out.base⟩, by simp [intOf]; omega⟩
      · go_wp2_with (first
            | (at_builtin; refine wp_app1 rfl _ _ rfl W1.heap.size (.slice ao S.length cp) S _ rfl hv.out rfl hlen hsz ?_; intro v' w4 ho4 hg4))
        exact ⟨⟨k + 1, by omega, by go_num, ho4.cast (HS.out _ (by show [_] = [_]; congr 1; simp only [wrap64]; omega)), hbel.out.grown hg4 hsz hv.out.base⟩, by simp [intOf]; omega⟩
      · go_wp2_with (first
            | (at_builtin; refine wp_app1 rfl _ _ rfl W1.heap.size (.slice ao S.length cp) S _ rfl hv.out rfl hlen hsz ?_; intro v' w4 ho4 hg4))
        exact ⟨⟨k + 1, by omega, by go_num, ho4.cast (HS.out _ rfl), hbel.out.grown hg4 hsz hv.out.base⟩, by simp [intOf]; omega⟩
      · go_wp2_with (first
            | (at_builtin; refine wp_app1 rfl _ _ rfl W1.heap.size (.slice ao S.length cp) S _ rfl hv.out rfl hlen hsz ?_; intro v' w4 ho4 hg4))
        exact ⟨⟨k + 1, by omega, by go_num, ho4.cast (HS.out _ (by show [_] = [_]; congr 1; simp only [wrap64]; omega)), hbel.out.grown hg4 hsz hv.out.base⟩, by simp [intOf]; omega⟩
      · go_wp2_with fail
        go_region_law (first
          | (refine step_fn 73 #[.int .i64 v.scale] rfl rfl (by kernel_rfl) (rlog_any v.scale _) ?_)
          | (refine step_app1d rfl _ _ rfl W1.heap.size (.slice ao S.length cp) S _ rfl (by exact hv.out) rfl hlen hsz ?_; intro v' w4 ho4 hg4))
        all_goals
          go_wp2
          exact ⟨⟨k + 1, by omega, by go_num, ho4.cast (HS.out _ (by show [_] = [_]; congr 1; first | (simp only [wrap64]; omega) | (simp only [IntKind.wrap_i64, IntKind.wrap_u8]; omega) | omega)), hbel.out.drew.grown hg4 hsz hv.out.base⟩, by simp [intOf]; omega⟩
      · go_wp2_with (first
            | (at_builtin; refine wp_app1 rfl _ _ rfl W1.heap.size (.slice ao S.length cp) S _ rfl hv.out rfl hlen hsz ?_; intro v' w4 ho4 hg4))
        exact ⟨⟨k + 1, by omega, by go_num, ho4.cast (HS.out _ rfl), hbel.out.grown hg4 hsz hv.out.base⟩, by simp [intOf]; omega⟩
      · go_wp2_with (first
            | (at_builtin; refine wp_app1 rfl _ _ rfl W1.heap.size (.slice ao S.length cp) S _ rfl hv.out rfl hlen hsz ?_; intro v' w4 ho4 hg4))
        exact ⟨⟨k + 1, by omega, by go_num, ho4.cast (HS.out _ rfl), hbel.out.grown hg4 hsz hv.out.base⟩, by simp [intOf]; omega⟩
      · go_wp2_with fail
        refine tail_quiet 5 (by kernel_rfl) (by kernel_rfl) ?_
        have hv3 : Hid (OwnL wr.drew W1.heap.size (.slice ao S.length cp) S) := hv.out
        have hb3 : Hid (Below W1.heap.size W1 wr.drew) := hbel.out.drew
        have hz3 : W1.heap.size ≤ wr.drew.heap.size := hsz
        have y7 : wr.drew.cell? ⟨w.heap.size, 7, none⟩ = some (.int .i64 v.imm) := x7
        clear x0 x1 x2 x3 x4 x5 x6 x7 x8 hv hbel hsz
        generalize wr.drew = W8 at *
        simp only [List.take_succ_cons, List.take_zero, List.drop_succ_cons, List.drop_zero]
        repeat (go_big_quiet_step (exact rbytes4_any _ _ _))
        refine wpQuiet_nil ?_
        go_wp2_with (first
          | (go_at_call 74; refine (rlow_any (c := Cc.cnt (Cc.size v.imm)) (by have := cnt_c (z := Cc.size v.imm); omega) v.imm hv3.out (by omega) hz3).mono ?_; rintro e w4 ⟨v', rfl, ho4, hb4⟩))
        exact ⟨⟨k + 1, by omega, by go_num, ho4.cast (HS.out _ rfl), hb3.out.trans hb4⟩, by simp [intOf]; omega⟩
      · go_wp2_with (first
            | (go_at_call 74; refine (rlow_any (c := 4) (by decide) v.imm hv.out (by omega) hsz).mono ?_; rintro e w4 ⟨v', rfl, ho4, hb4⟩))
        exact ⟨⟨k + 1, by omega, by go_num, ho4.cast (HS.out _ rfl), hbel.out.trans hb4⟩, by simp [intOf]; omega⟩
      · have HL0 : Cc.letB v l = [] := by
          simp only [beq_eq_false_iff_ne, ne_eq] at hc
          unfold Cc.letB
          simp [hc]
        have HL2 : Hid (Cc.letB v l = []) := HL0
        clear HL0
        obtain ⟨a1, a2, a3, a4, a5, a6, a7, a8, a9⟩ := hc
        go_wp2
        exact ⟨⟨k + 1, by omega, by go_num, hv.out.cast (by rw [HS.out [] HL2.out.symm, List.append_nil]), hbel.out⟩, by simp [intOf]; omega⟩
    · obtain rfl : k = s.size := by omega
      have HT : Hid ((Cc.lts s).take s.size = Cc.lts s) := by
        have : (Cc.lts s).length = s.size := by unfold Cc.lts; rw [List.length_map]; rfl
        rw [← this]
        exact List.take_length
      go_wp2
      go_ret
      have GB := below_grown hbel0
      exact ⟨_, rfl, by rw [HE.out, ← HT.out]; exact hv0.low (by omega), gtr GW GB⟩
def szT (t : Int) (v : InV) (far : Bool) : Int := if Lk.jmpB v.op && far then Lk.long t else ((Ru.encT t (Lk.bare v)).length : Int)
theorem szT_one (v : InV) (far : Bool) : szT 1 v far = 8 := by
 unfold szT Lk.long Ru.encT
 split <;> simp
theorem sh_size (t : Int) (P : Lk.PcV) (L : Nat → Bool) (i : Nat) : (P.sh t).size L i = szT t (P.I i) (L i) := rfl
theorem rsize6_any {t : Int} (ht : t = 1 ∨ t = 2) (v : InV) (far : Bool) (w : World) : Calls Tryz.prog 70 #[.int .i64 t, .agg #[.int .i64 v.op, .int .i64 v.a, .int .i64 v.b, .int .i64 v.c, .int .i64 v.k, .int .i64 v.sub, .int .i64 v.scale, .int .i64 v.imm, .int .i64 v.label], .bool far] w fun e w' => e = .returned (.int .i64 (szT t v far)) ∧ w.grownBy w' none := by
 rcases ht with rfl | rfl
 ·rw [szT_one]
  go_enter Tryz.func70, Tryz.ntmps70
  go_wp2
  go_ret
  exact ⟨rfl, gal⟩
 ·have HJ : Hid (∀ W, Calls Tryz.prog 30 #[.int .i64 v.op] W fun e w' => e = .returned (.bool (Lk.jmpB v.op)) ∧ w' = W) := fun W => rjumps_any v.op W
  have HE : Hid (∀ W, Calls Tryz.prog 54 #[.agg #[.int .i64 v.op, .int .i64 v.a, .int .i64 v.b, .int .i64 v.c, .int .i64 v.k, .int .i64 v.sub, .int .i64 v.scale, .int .i64 v.imm, .int .i64 0]] W fun e w' => ∃ ao cp, e = .returned (.slice ao (Cc.enc (Lk.bare v)).length cp) ∧ W.grownBy w' none) := fun W => (rencode4_any (Lk.bare v) W).mono (by
   rintro e w' ⟨x, rfl, ho, hg⟩
   obtain ⟨ao, cp, rfl, _⟩ := ho.toB.shape
   exact ⟨ao, cp, rfl, hg⟩)
  have hA : ∀ x, w.grownBy (w.alloc (Obj.cells x 50)) none := fun x => gal
  obtain ⟨R, hR⟩ : ∃ R, R = szT 2 v far := ⟨_, rfl⟩
  have HR : Hid (R = szT 2 v far) := hR
  rw [← hR]
  clear hR
  cases hj : Lk.jmpB v.op
  ·rw [hj] at HJ
   have e2 : R = ((Cc.enc (Lk.bare v)).length : Int) := by rw [HR.out]; unfold szT; rw [hj]; rfl
   have HR2 : Hid (R = ((Cc.enc (Lk.bare v)).length : Int)) := e2
   clear e2 HR
   go_enter Tryz.func70, Tryz.ntmps70
   go_wp2_with (first | (go_at_call 30; refine (HJ.out _).mono ?_; rintro e w1 ⟨rfl, hw1⟩; rw [hw1]; clear hw1 w1) | (go_at_call 54; refine (HE.out _).mono ?_; rintro e w2 ⟨ao, cp, rfl, g2⟩))
   go_ret
   exact ⟨ret_i64 HR2.out.symm, gtr (hA _) g2⟩
  ·rw [hj] at HJ
   cases far
   ·have e2 : R = ((Cc.enc (Lk.bare v)).length : Int) := by rw [HR.out]; unfold szT; simp; rfl
    have HR2 : Hid (R = ((Cc.enc (Lk.bare v)).length : Int)) := e2
    clear e2 HR
    go_enter Tryz.func70, Tryz.ntmps70
    go_wp2_with (first | (go_at_call 30; refine (HJ.out _).mono ?_; rintro e w1 ⟨rfl, hw1⟩; rw [hw1]; clear hw1 w1) | (go_at_call 54; refine (HE.out _).mono ?_; rintro e w2 ⟨ao, cp, rfl, g2⟩))
    go_ret
    exact ⟨ret_i64 HR2.out.symm, gtr (hA _) g2⟩
   ·have e2 : R = 6 := by rw [HR.out]; unfold szT; rw [hj]; rfl
    subst e2
    clear HR
    go_enter Tryz.func70, Tryz.ntmps70
    go_wp2_with (first | (go_at_call 30; refine (HJ.out _).mono ?_; rintro e w1 ⟨rfl, hw1⟩; rw [hw1]; clear hw1 w1))
    go_ret
    exact ⟨rfl, hA _⟩
theorem rbytes6_any {t : Int} (ht : t = 1 ∨ t = 2) (v : InV) (w : World) : Calls Tryz.prog 31 #[.int .i64 t, .agg #[.int .i64 v.op, .int .i64 v.a, .int .i64 v.b, .int .i64 v.c, .int .i64 v.k, .int .i64 v.sub, .int .i64 v.scale, .int .i64 v.imm, .int .i64 v.label]] w fun e w' => ∃ T cp, e = .returned (.slice (some ⟨T, 0, none⟩) (Ru.encT t (Lk.bare v)).length cp) ∧ OwnL w' w.heap.size (.slice (some ⟨T, 0, none⟩) (Ru.encT t (Lk.bare v)).length cp) (Ru.encT t (Lk.bare v)) ∧ w.grownBy w' none := by
 have hA : ∀ x, w.grownBy (w.alloc (Obj.cells x 50)) none := fun x => gal
 have hL := Ru.encT_len t (Lk.bare v)
 rcases ht with rfl | rfl
 ·have HE : Hid (∀ W, Calls Tryz.prog 53 #[.agg #[.int .i64 v.op, .int .i64 v.a, .int .i64 v.b, .int .i64 v.c, .int .i64 v.k, .int .i64 v.sub, .int .i64 v.scale, .int .i64 v.imm, .int .i64 0]] W fun e w' => ∃ T, e = .returned (.slice (some ⟨T, 0, none⟩) 8 8) ∧ OwnB w' W.heap.size (.slice (some ⟨T, 0, none⟩) 8 8) 8 (Rc.enc (Lk.bare v)) ∧ W.grownBy w' none) := fun W => rencode_any (Lk.bare v) W
  go_enter Tryz.func31, Tryz.ntmps31
  go_wp2_with (go_at_call 53; refine (HE.out _).mono ?_; rintro e w2 ⟨T, rfl, ho, g2⟩)
  go_ret
  have e8 : (Ru.encT 1 (Lk.bare v)) = (List.range 8).map (Rc.enc (Lk.bare v)) := rfl
  have el : (Ru.encT 1 (Lk.bare v)).length = 8 := by rw [e8]; simp
  refine ⟨T, 8, by rw [el]; rfl, ?_, gtr (hA _) g2⟩
  have h3 : OwnL w2 (w.heap.size + 1) (.slice (some ⟨T, 0, none⟩) 8 8) ((List.range 8).map (Rc.enc (Lk.bare v))) := by
   unfold OwnL
   rw [List.length_map, List.length_range]
   have : bytesL 8 (Rc.enc (Lk.bare v)) = ((List.range 8).map (Rc.enc (Lk.bare v))).map (Value.int .u8) := by unfold bytesL; simp
   rw [← this]
   unfold OwnB at ho
   simpa using ho
  rw [el, e8]
  exact World.ownsRow.mono h3 (by omega)
 ·have HE : Hid (∀ W, Calls Tryz.prog 54 #[.agg #[.int .i64 v.op, .int .i64 v.a, .int .i64 v.b, .int .i64 v.c, .int .i64 v.k, .int .i64 v.sub, .int .i64 v.scale, .int .i64 v.imm, .int .i64 0]] W fun e w' => ∃ T cp, e = .returned (.slice (some ⟨T, 0, none⟩) (Cc.enc (Lk.bare v)).length cp) ∧ OwnL w' W.heap.size (.slice (some ⟨T, 0, none⟩) (Cc.enc (Lk.bare v)).length cp) (Cc.enc (Lk.bare v)) ∧ W.grownBy w' none) := fun W => (rencode4_any (Lk.bare v) W).mono (by
   rintro e w' ⟨x, rfl, ho, hg⟩
   rcases ho.2 with ⟨rfl, h0⟩ | ⟨T, cp, cur, rfl, _⟩
   ·have : (Ru.encT 2 (Lk.bare v)) = Cc.enc (Lk.bare v) := rfl
    rw [this] at hL
    omega
   ·exact ⟨T, cp, rfl, ho, hg⟩)
  go_enter Tryz.func31, Tryz.ntmps31
  go_wp2_with (go_at_call 54; refine (HE.out _).mono ?_; rintro e w2 ⟨T, cp, rfl, ho, g2⟩)
  go_ret
  exact ⟨T, cp, rfl, World.ownsRow.mono ho (by simp), gtr (hA _) g2⟩
end Go.Proofs.YtkiockffejlnhaaGreatDoor
namespace Go.Proofs.YtkiockffejlnhaaGreatDoor
open Go.RowKit
set_option linter.unusedVariables false
def Fits {H : Type} (t : TypeId) (d : DataW H) : Prop := ∀ n ∈ d.weights Tryz.prog t, n ≤ reachBytes
theorem weights_all {H : Type} {e : TypeId} : ∀ {l : List (DataW H)} {d : DataW H}, d ∈ l → ∀ n ∈ d.weights Tryz.prog e, n ∈ DataW.weightsAll Tryz.prog e l
 | d0 :: l, d, hd, n, hn => by
  simp only [DataW.weightsAll, List.mem_append]
  rcases List.mem_cons.1 hd with rfl | h
  ·exact .inl hn
  ·exact .inr (weights_all h n hn)
theorem Fits.len {H : Type} {t e : TypeId} {l r : List (DataW H)} (ht : Tryz.prog.underlying t = some (.slice e)) (h : Fits t (.slice l r)) (hb : 0 < Tryz.prog.bytesOf e) : l.length ≤ reachBytes := by
 have := h ((l.length + r.length) * Tryz.prog.bytesOf e) (by simp [DataW.weights, ht])
 refine Nat.le_trans ?_ this
 exact Nat.le_trans (Nat.le_add_right _ _) (Nat.le_mul_of_pos_right _ hb)
theorem Fits.elem {H : Type} {t e : TypeId} {l r : List (DataW H)} {d : DataW H} (ht : Tryz.prog.underlying t = some (.slice e)) (h : Fits t (.slice l r)) (hd : d ∈ l) : Fits e d := fun n hn =>
 h n (by simp only [DataW.weights, ht, List.mem_cons, List.mem_append]; exact .inr (.inl (weights_all hd n hn)))
theorem Fits.field {H : Type} {t : TypeId} {fs : Array Field} {xs : List (DataW H × List MemPlace)} {q : List MemPlace} {x y : DataW H × List MemPlace} {i : Nat} {f : Field} (ht : Tryz.prog.underlying t = some (.struct fs)) (h : Fits t x.1) (hx : x = (.agg (xs.map (·.1)), q)) (hf : fs[i]? = some f) (hy : xs[i]? = some y) : Fits f.type y.1 := fun n hn =>
 h n (by
  subst hx
  simp only [DataW.weights, ht]
  exact DataW.weights_mem_each (j := i) (t := f.type) (d := y.1) (by simp [hf]) (by simp [hy]) n hn)
theorem slice_fits {t e : TypeId} {H : Type} {enc : TypeId × Value → H} {W : World} {spare : Nat → Bool} {held : Bool} {fuel : Nat} {cs : List Value} {x : DataW H × List MemPlace}
  (ht : Tryz.prog.underlying t = some (.slice e)) (hb : 0 < Tryz.prog.bytesOf e) (hs : Fits t x.1) (h : DataW.trod enc Tryz.prog W 0 spare held fuel t cs = some x) {a : Option Addr} {len cap : Nat} (hc : cs = [.slice a len cap]) : len ≤ reachBytes := by
 rcases Go.Deep.open_slice ht h with ⟨hcs, _⟩ | ⟨a', len', cap', m, n, D, Pl, hcs, _, hl, hm, hmm, hx, _⟩
 ·rw [hc] at hcs
  simp at hcs
  obtain ⟨_, rfl, _⟩ := hcs
  exact Nat.zero_le _
 ·rw [hc] at hcs
  simp at hcs
  obtain ⟨_, rfl, _⟩ := hcs
  rw [hx] at hs
  have := Fits.len ht hs hb
  simpa using this
theorem addr_add (b off n : Nat) : (⟨b, off, none⟩ : Addr).add n = ⟨b, off + n, none⟩ := by simp [Addr.add]
structure RowB {α : Type} (c by' : Nat) (Q : World → Nat → Nat → α → Prop) (W : World) (a : Option Addr) (len cap : Nat) (V : Nat → α) : Prop where
 nil : a = none → len = 0 ∧ cap = 0
 le : len ≤ cap
 max : cap ≤ maxLen
 fits : len * by' ≤ reachBytes
 bs : len = 0 ∨ ∃ b off, a = some ⟨b, off, none⟩ ∧ b < W.heap.size ∧ ∀ i, i < len → Q W b (off + i * c) (V i)
theorem Fits.lenB {H : Type} {t e : TypeId} {l r : List (DataW H)} (ht : Tryz.prog.underlying t = some (.slice e)) (h : Fits t (.slice l r)) : l.length * Tryz.prog.bytesOf e ≤ reachBytes := by
 have := h ((l.length + r.length) * Tryz.prog.bytesOf e) (by simp [DataW.weights, ht])
 exact Nat.le_trans (Nat.mul_le_mul_right _ (Nat.le_add_right _ _)) this
theorem open_rowB {α : Type} {t e : TypeId} {c by' : Nat} {H : Type} {enc : TypeId × Value → H} {W : World} {spare : Nat → Bool} {held : Bool} {fuel : Nat} {cs : List Value} {x : DataW H × List MemPlace} (dflt : α) (Q : World → Nat → Nat → α → Prop)
  (ht : Tryz.prog.underlying t = some (.slice e)) (hc : Tryz.prog.cellsOf e = c) (c0 : 0 < c) (hby : Tryz.prog.bytesOf e = by') (hs : Fits t x.1)
  (each : ∀ (n : Nat) (cs : List Value) (b o : Nat) (y : DataW H × List MemPlace), cs.length = c → b < W.heap.size → (∀ j v, cs[j]? = some v → W.cell? ⟨b, o + j, none⟩ = some v) → DataW.trod enc Tryz.prog W 0 spare held n e cs = some y → Fits e y.1 → ∃ z : α, Q W b o z)
  (h : DataW.trod enc Tryz.prog W 0 spare held fuel t cs = some x) : ∃ a len cap V, cs = [.slice a len cap] ∧ RowB c by' Q W a len cap V := by
 rcases Go.Deep.open_slice ht h with ⟨hcs, _⟩ | ⟨a', len, cap, m, n, D, Pl, hcs, hb, hl, hm, hmm, hxx, hx⟩
 ·exact ⟨none, 0, 0, fun _ => dflt, hcs, fun _ => ⟨rfl, rfl⟩, Nat.le_refl _, Nat.zero_le _, by simp, .inl rfl⟩
 ·have hlm : len ≤ m := by rw [hmm]; split <;> omega
  rw [hxx] at hs
  have hfl : len * by' ≤ reachBytes := by have := Fits.lenB ht hs; rw [hby] at this; simpa using this
  by_cases h0 : len = 0
  ·exact ⟨_, _, _, fun _ => dflt, hcs, (fun h => by cases h), hl, hm, hfl, .inl h0⟩
  obtain ⟨b, off, spot⟩ := a'
  have h00 : spot = none ∧ b < W.heap.size := by
   obtain ⟨cs', h1, h2⟩ := hx 0 (by omega)
   rw [hc] at h1
   obtain ⟨_, hlen, hcell⟩ := World.cells?_some h1
   have k0 := hcell 0 (by omega)
   obtain ⟨v, hv⟩ : ∃ v, W.cell? ⟨b, off, spot⟩ = some v := by
    have : W.cell? ⟨b, off, spot⟩ = cs'[0]? := by simpa [Addr.add] using k0
    rw [List.getElem?_eq_getElem (by omega)] at this
    exact ⟨_, this⟩
   exact ⟨World.cell?_spot hv, World.block_lt_of_cell? _ _ hv⟩
  obtain ⟨rfl, hlt⟩ := h00
  have each' : ∀ i, i < len → ∃ z : α, Q W b (off + i * c) z := by
   intro i hi
   obtain ⟨cs', h1, h2⟩ := hx i (by omega)
   rw [hc] at h1
   obtain ⟨_, hlen, hcell⟩ := World.cells?_some h1
   refine each n cs' b (off + i * c) _ hlen hlt (fun j v hv => ?_) h2 (Fits.elem ht hs (List.mem_map.2 ⟨i, List.mem_range.2 hi, rfl⟩))
   have hj : j < c := by rw [← hlen]; exact (List.getElem?_eq_some_iff.1 hv).1
   have k := hcell j hj
   rw [addr_add, addr_add] at k
   exact k.trans hv
  have : ∃ V : Nat → α, ∀ i, i < len → Q W b (off + i * c) (V i) :=
   ⟨fun i => if hi : i < len then Classical.choose (each' i hi) else dflt, fun i hi => by simp only [dif_pos hi]; exact Classical.choose_spec (each' i hi)⟩
  obtain ⟨V, hV⟩ := this
  exact ⟨_, _, _, V, hcs, (fun h => by cases h), hl, hm, hfl, .inr ⟨b, off, rfl, hlt, hV⟩⟩
def NumC (W : World) (b o : Nat) (z : Int) : Prop := W.cell? ⟨b, o, none⟩ = some (.int .i64 z)
theorem open_nums {H : Type} {enc : TypeId × Value → H} {W : World} {spare : Nat → Bool} {held : Bool} {fuel : Nat} {cs : List Value} {x : DataW H × List MemPlace}
  (h : DataW.trod enc Tryz.prog W 0 spare held fuel 30 cs = some x) (hs : Fits 30 x.1) : ∃ a len cap V, cs = [.slice a len cap] ∧ RowB 1 8 NumC W a len cap V := by
 refine open_rowB 0 NumC Tryz.underlying30 (c := 1) (by kernel_rfl) (by decide) (by kernel_rfl) hs (fun n cs b o y hl hb hc hy hz => ?_) h
 obtain ⟨z, e, _, f⟩ := DataW.trod_int Tryz.underlying3 hy
 subst e
 exact ⟨z, hc 0 _ rfl⟩
theorem RowB.num {W : World} {a : Option Addr} {len cap : Nat} {V : Nat → Int} (h : RowB 1 8 NumC W a len cap V) : NumIn W.heap.size W a len cap V :=
 ⟨h.le, h.max, by
  rcases h.bs with h0 | ⟨b, off, e, hl, hq⟩
  ·exact .inl h0
  ·exact .inr ⟨b, off, e, hl, fun i hi => by have := hq i hi; rw [Nat.mul_one] at this; exact this⟩⟩
end Go.Proofs.YtkiockffejlnhaaGreatDoor
namespace Go.Proofs.YtkiockffejlnhaaGreatDoor
set_option maxRecDepth 100000
set_option maxHeartbeats 32000000
open Go.RowKit
set_option linter.unusedVariables false
def IntB (w : World) (b : Nat) : Prop := ∃ cur, w.heap[b]? = some (.cells cur 3 (0, 0))
theorem IntB.lt {w : World} {b : Nat} (h : IntB w b) : b < w.heap.size := by obtain ⟨cur, h⟩ := h; exact (Array.getElem?_eq_some_iff.1 h).1
theorem IntB.ch {w w' : World} {b : Nat} {l : List Nat} (h : IntB w b) (hg : Ch w w' l) (hb : b ∉ l) : IntB w' b := by
 have hl := h.lt
 obtain ⟨cur, h⟩ := h
 exact ⟨cur, (hg.block b hl hb).trans h⟩
theorem NumIn.grow {N : Nat} {w w' : World} {a : Option Addr} {n c : Nat} {M : Nat → Int} (h : NumIn N w a n c M) (hg : w.grownBy w' none) : NumIn N w' a n c M := h.ch (l := []) (Ch.of hg) (by simp)
theorem OwnZ.numIn {w : World} {base : Nat} {v : Value} {l : List Int} {M : Nat → Int} {n : Nat} (h : OwnZ w base v l) (hn : l.length = n) (hM : ∀ i, i < n → l.getD i 0 = M i) : ∃ a c, v = .slice a n c ∧ NumIn w.heap.size w a n c M := by
 subst hn
 obtain ⟨a, c, rfl, h1, h2, h3⟩ := h.slice
 refine ⟨a, c, rfl, h1, h2, ?_⟩
 by_cases h0 : l.length = 0
 ·exact .inl h0
 ·obtain ⟨T, rfl, _, hT⟩ := h3 (by omega)
  exact .inr ⟨T, 0, rfl, hT, fun i hi => by rw [Nat.zero_add, ← hM i hi]; exact h.n.cell hi⟩
theorem NumIn.ch2 {N : Nat} {w w' : World} {a : Option Addr} {n c : Nat} {M : Nat → Int} {l : List Nat} (h : NumIn N w a n c M) (hg : Ch w w' l) (hl : ∀ b o, a = some ⟨b, o, none⟩ → b ∉ l) : NumIn N w' a n c M :=
 ⟨h.le, h.max, by
  rcases h.lie with h0 | ⟨b, off, e, hb, hi⟩
  ·exact .inl h0
  ·exact .inr ⟨b, off, e, hb, fun i hi' => hg.cell (hi i hi') (hl b off e)⟩⟩
theorem cells_new {w : World} (c : Array Value) (t : TypeId) {b : Nat} (hb : b = w.heap.size) (j : Nat) : (w.alloc (.cells c t)).cell? ⟨b, j, none⟩ = c[j]? := by subst hb; exact World.cell?_alloc_new _ _ _ _
theorem fzs_new {w : World} (c : Array Value) (t : TypeId) {b : Nat} (hb : b = w.heap.size) (j : Nat) : (w.alloc (.cells c t)).frozen? ⟨b, j, none⟩ = false := by subst hb; simp
theorem copyNums_any {N : Nat} {w : World} {a : Option Addr} {n c : Nat} {M : Nat → Int} (h : NumIn N w a n c M) (hz : a = none → n = 0 ∧ c = 0) (hf : n * 8 ≤ reachBytes) :
  Calls Tryz.prog 37 #[.slice a n c] w fun e w' => ∃ a' c', e = .returned (.slice a' n c') ∧ NumIn w'.heap.size w' a' n c' M ∧ (a' = none → n = 0 ∧ c' = 0) ∧ (∀ b o, a' = some ⟨b, o, none⟩ → w.heap.size ≤ b ∧ IntB w' b) ∧ w.grownBy w' none := by
 obtain ⟨i, hi, hz0, hz1, hz2⟩ := info_parts info_int
 have hf' : n * 8 ≤ 140737488351232 := hf
 have hle := h.le
 have hmx := h.max
 have hmx' := h.max
 unfold maxLen at hmx
 cases a with
 | none =>
  obtain ⟨rfl, rfl⟩ := hz rfl
  go_enter Tryz.func37, Tryz.ntmps37
  go_wp2_with (at_builtin; refine wpList_append_own_none rfl _ _ 30 rfl w.heap.size 3 i 1 Tryz.underlying30 hi (.slice none 0 0) 0 [] rfl (World.ownsRow_nil _ _ _ _) rfl ?_)
  go_ret
  exact ⟨none, 0, rfl, ⟨Nat.le_refl _, Nat.zero_le _, .inl rfl⟩, fun _ => by simp, (fun b o e => by cases e), gr0⟩
 | some ad =>
  have HL : Hid (∀ j u, (((List.range n).map M).map (Value.int .i64))[j]? = some u → w.cell? (ad.add j) = some u) := by
   intro j u hj
   have hjn : j < n := by have := (List.getElem?_eq_some_iff.1 hj).1; simpa using this
   obtain ⟨b, off, e, _, hc⟩ := h.at hjn
   injection e with e
   subst e
   rw [addr_add, hc, ← hj]
   simp [hjn]
  have hl : (((List.range n).map M).map (Value.int .i64)).length = n * 1 := by simp
  have h1c : ∀ u ∈ ((List.range n).map M).map (Value.int .i64), u.oneCell' = true := by intro y hy; obtain ⟨z, _, rfl⟩ := List.mem_map.mp hy; rfl
  obtain ⟨Z, hZ⟩ : ∃ Z, Z = ((List.range n).map M).map (Value.int .i64) := ⟨_, rfl⟩
  rw [← hZ] at HL hl h1c
  have HZ : Hid (Z = ((List.range n).map M).map (Value.int .i64)) := hZ
  clear h hZ hz
  go_enter Tryz.func37, Tryz.ntmps37
  go_wp2_with (at_builtin; refine wpList_append_own _ rfl _ _ 30 rfl w.heap.size 3 i (.int .i64 0) 1 8 Tryz.underlying30 hi hz0 hz1 hz2 rfl (by decide) (.slice none 0 0) 0 [] rfl (World.ownsRow_nil _ _ _ _) ad n c Z rfl hl HL.out h1c (by unfold maxLen; omega) (by omega) (Nat.le_refl _) ?_; intro v' w2 ho2 hg2 hv2)
  go_ret
  have ho : OwnZ w2 w.heap.size v' ((List.range n).map M) := by
   unfold OwnZ
   rw [List.length_map, List.length_range, ← HZ.out]
   simpa using ho2
  obtain ⟨a', c', rfl, hN⟩ := ho.numIn (M := M) (n := n) (by simp) (fun i hi => by simp [List.getD_eq_getElem?_getD, hi])
  refine ⟨a', c', rfl, hN, fun e => ?_, fun b o e => ?_, hg2⟩
  rotate_left
  ·subst e
   rcases ho.2 with ⟨e, h0⟩ | ⟨T5, c5, cur, e, hb5, hg5, _⟩
   ·cases e
   ·injection e with e1 e2 e3
    injection e1 with e1
    injection e1 with e1
    subst e1
    exact ⟨hb5, cur, hg5⟩
  subst e
  rcases ho.2 with ⟨e, h0⟩ | ⟨T5, c5, cur, e, _⟩
  ·injection e with e1 e2 e3
   exact ⟨by simpa using h0, e3⟩
  ·cases e
theorem frozenK {w w' : World} {l : List Nat} (h : Ch w w' l) {b k : Nat} (hlt : b < w.heap.size) (hb : b ∉ l) (hf : w.frozen? ⟨b, k, none⟩ = false) : w'.frozen? ⟨b, k, none⟩ = false := by
 have := h.block b hlt hb
 simp only [World.frozen?] at hf ⊢
 rw [this]
 exact hf
def InQ (W : World) (b o : Nat) (v : InV) : Prop := InAt W b o v ∧ InRng v
theorem open_ins {H : Type} {enc : TypeId × Value → H} {W : World} {spare : Nat → Bool} {held : Bool} {fuel : Nat} {cs : List Value} {x : DataW H × List MemPlace}
  (h : DataW.trod enc Tryz.prog W 0 spare held fuel 46 cs = some x) (hs : Fits 46 x.1) : ∃ a len cap V, cs = [.slice a len cap] ∧ RowB 9 72 InQ W a len cap V := by
 have c3 : Tryz.prog.cellsOf 3 = 1 := by kernel_rfl
 have c2 : Tryz.prog.cellsOf 2 = 1 := by kernel_rfl
 refine open_rowB zeroI InQ Tryz.underlying46 (c := 9) (by kernel_rfl) (by decide) (by kernel_rfl) hs (fun n cs b o y hl hb hc hy hz => ?_) h
 obtain ⟨xs, kk, hk, hxy, _, hxl, hf⟩ := DataW.trod_struct Tryz.underlying50 hy
 match xs, hxl, cs, hl with
 | [z0, z1, z2, z3, z4, z5, z6, z7, z8], _, [v0, v1, v2, v3, v4, v5, v6, v7, v8], _ =>
  have g0 := hf 0 _ rfl
  have g1 := hf 1 _ rfl
  have g2 := hf 2 _ rfl
  have g3 := hf 3 _ rfl
  have g4 := hf 4 _ rfl
  have g5 := hf 5 _ rfl
  have g6 := hf 6 _ rfl
  have g7 := hf 7 _ rfl
  have g8 := hf 8 _ rfl
  simp [c3, c2] at g0 g1 g2 g3 g4 g5 g6 g7 g8
  obtain ⟨n0, e0, _, f0⟩ := DataW.trod_int Tryz.underlying3 g0
  obtain ⟨n1, e1, _, f1⟩ := DataW.trod_int Tryz.underlying3 g1
  obtain ⟨n2, e2, _, f2⟩ := DataW.trod_int Tryz.underlying3 g2
  obtain ⟨n3, e3, _, f3⟩ := DataW.trod_int Tryz.underlying3 g3
  obtain ⟨n4, e4, _, f4⟩ := DataW.trod_int Tryz.underlying3 g4
  obtain ⟨n5, e5, _, f5⟩ := DataW.trod_int Tryz.underlying3 g5
  obtain ⟨n6, e6, _, f6⟩ := DataW.trod_int Tryz.underlying3 g6
  obtain ⟨n7, e7, _, f7⟩ := DataW.trod_int Tryz.underlying2 g7
  obtain ⟨n8, e8, _, f8⟩ := DataW.trod_int Tryz.underlying3 g8
  simp at e0 e1 e2 e3 e4 e5 e6 e7 e8
  subst e0 e1 e2 e3 e4 e5 e6 e7 e8
  have f6 := bounds_i64 f6
  have f7 := bounds_i64 f7
  exact ⟨⟨n0, n1, n2, n3, n4, n5, n6, n7, n8⟩, ⟨hc 0 _ rfl, hc 1 _ rfl, hc 2 _ rfl, hc 3 _ rfl, hc 4 _ rfl, hc 5 _ rfl, hc 6 _ rfl, hc 7 _ rfl, hc 8 _ rfl⟩, by constructor <;> dsimp only <;> omega⟩
theorem RowB.ins {W : World} {a : Option Addr} {len cap : Nat} {V : Nat → InV} (h : RowB 9 72 InQ W a len cap V) : InsIn W.heap.size W a len cap V := by
 refine ⟨h.le, h.max, ?_, ?_⟩
 ·rcases h.bs with h0 | ⟨b, off, e, hl, hq⟩
  ·exact .inl h0
  ·exact .inr ⟨b, off, e, hl, fun i hi => (hq i hi).1⟩
 ·rcases h.bs with h0 | ⟨b, off, e, hl, hq⟩
  ·exact fun i hi => by omega
  ·exact fun i hi => (hq i hi).2
structure PcQ (W : World) (b o : Nat) (x : Lk.PcV × PcA) : Prop where
 pa : PcAt W.heap.size W b o x.1 x.2
 iz : x.2.ia = none → x.1.n = 0 ∧ x.2.ic = 0
 mz : x.2.ma = none → x.1.m = 0 ∧ x.2.mc = 0
 ib : x.1.n * 72 ≤ reachBytes
 mb : x.1.m * 8 ≤ reachBytes
theorem open_pieces {H : Type} {enc : TypeId × Value → H} {W : World} {spare : Nat → Bool} {held : Bool} {fuel : Nat} {cs : List Value} {x : DataW H × List MemPlace}
  (h : DataW.trod enc Tryz.prog W 0 spare held fuel 23 cs = some x) (hs : Fits 23 x.1) : ∃ a len cap V, cs = [.slice a len cap] ∧ RowB 3 56 PcQ W a len cap V := by
 have c1 : Tryz.prog.cellsOf 46 = 1 := by kernel_rfl
 have c2 : Tryz.prog.cellsOf 30 = 1 := by kernel_rfl
 have c3 : Tryz.prog.cellsOf 3 = 1 := by kernel_rfl
 refine open_rowB (⟨0, fun _ => zeroI, 0, fun _ => 0⟩, ⟨none, 0, none, 0, 0⟩) PcQ Tryz.underlying23 (c := 3) (by kernel_rfl) (by decide) (by kernel_rfl) hs (fun n cs b o y hl hb hc hy hz => ?_) h
 obtain ⟨xs, kk, hk, hxy, _, hxl, hf⟩ := DataW.trod_struct Tryz.underlying48 hy
 match xs, hxl, cs, hl with
 | [z0, z1, z2], _, [v0, v1, v2], _ =>
  have g0 := hf 0 _ rfl
  have g1 := hf 1 _ rfl
  have g2 := hf 2 _ rfl
  simp [c1, c2, c3] at g0 g1 g2
  obtain ⟨a0, l0, p0, V0, e0, f0⟩ := open_ins g0 (hz.field Tryz.underlying48 hxy (i := 0) rfl rfl)
  obtain ⟨a1, l1, p1, V1, e1, f1⟩ := open_nums g1 (hz.field Tryz.underlying48 hxy (i := 1) rfl rfl)
  obtain ⟨n2, e2, _⟩ := DataW.trod_int Tryz.underlying3 g2
  simp at e0 e1 e2
  subst e0 e1 e2
  exact ⟨(⟨l0, V0, l1, V1⟩, ⟨a0, p0, a1, p1, n2⟩), ⟨hc 0 _ rfl, hc 1 _ rfl, hc 2 _ rfl, f0.ins, f1.num⟩, f0.nil, f1.nil, f0.fits, f1.fits⟩
structure PcsQ (W : World) (a : Option Addr) (K c : Nat) (V : Nat → Lk.PcV) (A : Nat → PcA) : Prop where
 ps : PcsIn W.heap.size W a K c V A
 sz : K * 56 ≤ reachBytes
 iz : ∀ k, k < K → (A k).ia = none → (V k).n = 0 ∧ (A k).ic = 0
 mz : ∀ k, k < K → (A k).ma = none → (V k).m = 0 ∧ (A k).mc = 0
 ib : ∀ k, k < K → (V k).n * 72 ≤ reachBytes
 mb : ∀ k, k < K → (V k).m * 8 ≤ reachBytes
theorem RowB.pieces {W : World} {a : Option Addr} {len cap : Nat} {X : Nat → Lk.PcV × PcA} (h : RowB 3 56 PcQ W a len cap X) : PcsQ W a len cap (fun k => (X k).1) (fun k => (X k).2) := by
 rcases h.bs with h0 | ⟨b, off, e, hl, hq⟩
 ·exact ⟨⟨h.le, h.max, .inl h0⟩, h.fits, fun k hk => by omega, fun k hk => by omega, fun k hk => by omega, fun k hk => by omega⟩
 ·exact ⟨⟨h.le, h.max, .inr ⟨b, off, e, hl, fun k hk => (hq k hk).pa⟩⟩, h.fits, fun k hk => (hq k hk).iz, fun k hk => (hq k hk).mz, fun k hk => (hq k hk).ib, fun k hk => (hq k hk).mb⟩
structure AkV where
 t : Int
 a : Option Addr
 K : Nat
 c : Nat
 V : Nat → Lk.PcV
 A : Nat → PcA
 da : Option Addr
 dn : Nat
 dc : Nat
 dg : Nat → Int
 en : Int
structure AkAt (W : World) (b o : Nat) (v : AkV) : Prop where
 c0 : W.cell? ⟨b, o, none⟩ = some (.int .i64 v.t)
 c1 : W.cell? ⟨b, o + 1, none⟩ = some (.slice v.a v.K v.c)
 c2 : W.cell? ⟨b, o + 2, none⟩ = some (.slice v.da v.dn v.dc)
 c3 : W.cell? ⟨b, o + 3, none⟩ = some (.int .i64 v.en)
 ps : PcsQ W v.a v.K v.c v.V v.A
 d : BsIn W v.da v.dn v.dc v.dg
 dz : v.dn ≤ reachBytes
theorem open_asks6 {H : Type} {enc : TypeId × Value → H} {W : World} {spare : Nat → Bool} {held : Bool} {fuel : Nat} {cs : List Value} {x : DataW H × List MemPlace}
  (h : DataW.trod enc Tryz.prog W 0 spare held fuel 22 cs = some x) (hs : Fits 22 x.1) : ∃ a len cap V, cs = [.slice a len cap] ∧ RowB 4 64 AkAt W a len cap V := by
 have c1 : Tryz.prog.cellsOf 3 = 1 := by kernel_rfl
 have c2 : Tryz.prog.cellsOf 23 = 1 := by kernel_rfl
 have c3 : Tryz.prog.cellsOf 24 = 1 := by kernel_rfl
 refine open_rowB ⟨0, none, 0, 0, fun _ => ⟨0, fun _ => zeroI, 0, fun _ => 0⟩, fun _ => ⟨none, 0, none, 0, 0⟩, none, 0, 0, fun _ => 0, 0⟩ AkAt Tryz.underlying22 (c := 4) (by kernel_rfl) (by decide) (by kernel_rfl) hs (fun n cs b o y hl hb hc hy hz => ?_) h
 obtain ⟨xs, kk, hk, hxy, _, hxl, hf⟩ := DataW.trod_struct Tryz.underlying26 hy
 match xs, hxl, cs, hl with
 | [z0, z1, z2, z3], _, [v0, v1, v2, v3], _ =>
  have g0 := hf 0 _ rfl
  have g1 := hf 1 _ rfl
  have g2 := hf 2 _ rfl
  have g3 := hf 3 _ rfl
  simp [c1, c2, c3] at g0 g1 g2 g3
  obtain ⟨n0, e0, _⟩ := DataW.trod_int Tryz.underlying3 g0
  obtain ⟨a1, l1, p1, V1, e1, f1⟩ := open_pieces g1 (hz.field Tryz.underlying26 hxy (i := 1) rfl rfl)
  obtain ⟨a2, l2, p2, V2, e2, f2⟩ := open_bytes g2
  have d2 := slice_fits Tryz.underlying24 (by decide +kernel) (hz.field Tryz.underlying26 hxy (i := 2) rfl rfl) g2 e2
  obtain ⟨n3, e3, _⟩ := DataW.trod_int Tryz.underlying3 g3
  simp at e0 e1 e2 e3
  subst e0 e1 e2 e3
  exact ⟨⟨n0, a1, l1, p1, fun k => (V1 k).1, fun k => (V1 k).2, a2, l2, p2, V2, n3⟩, hc 0 _ rfl, hc 1 _ rfl, hc 2 _ rfl, hc 3 _ rfl, f1.pieces, f2, d2⟩
theorem grown_ch {w w' : World} {row : Option Nat} (h : w.grownBy w' row) : Ch w w' row.toList := ⟨h.os, h.tape, h.output, h.size, fun k hk hn => h.block k hk (by intro e; subst e; simp at hn)⟩
def InsB (w : World) (b : Nat) : Prop := ∃ cur, w.heap[b]? = some (.cells cur 50 (0, 0))
theorem InsB.lt {w : World} {b : Nat} (h : InsB w b) : b < w.heap.size := by obtain ⟨cur, h⟩ := h; exact (Array.getElem?_eq_some_iff.1 h).1
theorem InsB.ch {w w' : World} {b : Nat} {l : List Nat} (h : InsB w b) (hg : Ch w w' l) (hb : b ∉ l) : InsB w' b := by
 have hl := h.lt
 obtain ⟨cur, h⟩ := h
 exact ⟨cur, (hg.block b hl hb).trans h⟩
theorem InsIn.grow {N : Nat} {w w' : World} {a : Option Addr} {n c : Nat} {I : Nat → InV} (h : InsIn N w a n c I) (hg : w.grownBy w' none) : InsIn N w' a n c I := h.ch (l := []) (Ch.of hg) (by simp)
theorem InsIn.ch2 {N : Nat} {w w' : World} {a : Option Addr} {n c : Nat} {I : Nat → InV} {l : List Nat} (h : InsIn N w a n c I) (hg : Ch w w' l) (hl : ∀ b o, a = some ⟨b, o, none⟩ → b ∉ l) : InsIn N w' a n c I :=
 ⟨h.le, h.max, by
  rcases h.lie with h0 | ⟨b, off, e, hb, hi⟩
  ·exact .inl h0
  ·exact .inr ⟨b, off, e, hb, fun i hi' => (hi i hi').ch hg (hl b off e)⟩, h.rng⟩
theorem InAt.get {w : World} {b o : Nat} {v : InV} (h : InAt w b o v) {k : Nat} (hk : k < 9) : w.cell? ⟨b, o + k, none⟩ = (cells9 v)[k]? := by
 have : k = 0 ∨ k = 1 ∨ k = 2 ∨ k = 3 ∨ k = 4 ∨ k = 5 ∨ k = 6 ∨ k = 7 ∨ k = 8 := by omega
 rcases this with rfl | rfl | rfl | rfl | rfl | rfl | rfl | rfl | rfl
 ·exact h.c0
 ·exact h.c1
 ·exact h.c2
 ·exact h.c3
 ·exact h.c4
 ·exact h.c5
 ·exact h.c6
 ·exact h.c7
 ·exact h.c8
theorem insIn_own' {W : World} {base T c N : Nat} {l : List InV} (h : OwnI W base (.slice (some ⟨T, 0, none⟩) l.length c) l) (hN : W.heap.size ≤ N) (hr : ∀ v, v ∈ l → InRng v) (I : Nat → InV) (hI : ∀ i (hi : i < l.length), I i = l[i]) : InsIn N W (some ⟨T, 0, none⟩) l.length c I := by
 obtain ⟨ao, c', e, hc, _⟩ := h.slice
 simp at e
 obtain ⟨_, rfl⟩ := e
 have hm : c ≤ maxLen := by
  rcases h.2 with ⟨e1, _⟩ | ⟨g, c2, cur, e1, _, _, _, hm, _⟩
  ·cases e1
  ·simp at e1; obtain ⟨_, rfl⟩ := e1; exact hm
 refine ⟨hc, hm, .inr ⟨T, 0, rfl, Nat.lt_of_lt_of_le (World.ownsRow.lt h T rfl).2 hN, fun i hi => ?_⟩, fun i hi => ?_⟩
 ·rw [hI i hi]; exact h.inAt rfl hi
 ·rw [hI i hi]; exact hr _ (List.getElem_mem hi)
theorem copyInsts_any {N : Nat} {w : World} {a : Option Addr} {n c : Nat} {I : Nat → InV} (h : InsIn N w a n c I) (hz : a = none → n = 0 ∧ c = 0) (hf : n * 72 ≤ reachBytes) :
  Calls Tryz.prog 36 #[.slice a n c] w fun e w' => ∃ a' c', e = .returned (.slice a' n c') ∧ InsIn w'.heap.size w' a' n c' I ∧ (a' = none → n = 0 ∧ c' = 0) ∧ (∀ b o, a' = some ⟨b, o, none⟩ → w.heap.size ≤ b ∧ InsB w' b) ∧ w.grownBy w' none := by
 obtain ⟨i, hi, hz0, hz1, hz2⟩ := info_parts info_inst
 have hf' : n * 72 ≤ 140737488351232 := hf
 have hle := h.le
 have hmx := h.max
 unfold maxLen at hmx
 cases a with
 | none =>
  obtain ⟨rfl, rfl⟩ := hz rfl
  go_enter Tryz.func36, Tryz.ntmps36
  go_wp2_with (at_builtin; refine wpList_append_own_none rfl _ _ 46 rfl w.heap.size 50 i 9 Tryz.underlying46 hi (.slice none 0 0) 0 [] rfl (World.ownsRow_nil _ _ _ _) rfl ?_)
  go_ret
  exact ⟨none, 0, rfl, ⟨Nat.le_refl _, Nat.zero_le _, .inl rfl, fun i hi => by omega⟩, fun _ => by simp, (fun b o e => by cases e), gr0⟩
 | some ad =>
  have HL : Hid (∀ j u, (((List.range n).map I).flatMap cells9)[j]? = some u → w.cell? (ad.add j) = some u) := by
   intro j u hj
   have hjn : j < n * 9 := by have := (List.getElem?_eq_some_iff.1 hj).1; rw [flat9_len] at this; simpa using this
   obtain ⟨b, off, e, _, hc, _⟩ := h.at (i := j / 9) (by omega)
   injection e with e
   subst e
   have h1 := flat9_at ((List.range n).map I) (j / 9) (j % 9) (by simp; omega) (by omega)
   rw [show j / 9 * 9 + j % 9 = j by omega, hj] at h1
   have h2 := hc.get (k := j % 9) (by omega)
   rw [addr_add, show off + j = off + j / 9 * 9 + j % 9 by omega, h2, h1]
   simp
  have hl : (((List.range n).map I).flatMap cells9).length = n * 9 := by rw [flat9_len]; simp
  have h1c : ∀ u ∈ ((List.range n).map I).flatMap cells9, u.oneCell' = true := by intro y hy; obtain ⟨z, _, hz⟩ := List.mem_flatMap.mp hy; simp [cells9] at hz; rcases hz with rfl | rfl | rfl | rfl | rfl | rfl | rfl | rfl | rfl <;> rfl
  obtain ⟨Z, hZ⟩ : ∃ Z, Z = ((List.range n).map I).flatMap cells9 := ⟨_, rfl⟩
  rw [← hZ] at HL hl h1c
  have HZ : Hid (Z = ((List.range n).map I).flatMap cells9) := hZ
  have HR : Hid (∀ i, i < n → InRng (I i)) := h.rng
  clear h hZ hz
  go_enter Tryz.func36, Tryz.ntmps36
  go_wp2_with (at_builtin; refine wpList_append_own _ rfl _ _ 46 rfl w.heap.size 50 i _ 9 72 Tryz.underlying46 hi hz0 hz1 hz2 rfl (by decide) (.slice none 0 0) 0 [] rfl (World.ownsRow_nil _ _ _ _) ad n c Z rfl hl HL.out h1c (by unfold maxLen; omega) (by omega) (Nat.le_refl _) ?_; intro v' w2 ho2 hg2 hv2)
  go_ret
  have ho : OwnI w2 w.heap.size v' ((List.range n).map I) := by
   unfold OwnI
   rw [List.length_map, List.length_range, ← HZ.out]
   simpa using ho2
  rcases ho.2 with ⟨rfl, h0⟩ | ⟨T5, c5, cur, rfl, hb5, hg5, hc5, hm5, _⟩
  ·have h0' : n = 0 := by simpa using h0
   subst h0'
   exact ⟨none, 0, rfl, ⟨Nat.le_refl _, Nat.zero_le _, .inl rfl, fun i hi => by omega⟩, fun _ => ⟨rfl, rfl⟩, (fun b o e => by cases e), hg2⟩
  ·have en : ((List.range n).map I).length = n := by simp
   have e2 := insIn_own' ho (Nat.le_refl _) (fun v hv => by obtain ⟨k, hk, rfl⟩ := List.mem_map.1 hv; exact HR.out k (by simpa using hk)) I (fun i hi => by simp)
   rw [en] at e2 hc5 ⊢
   refine ⟨_, c5, rfl, e2, (fun e => by cases e), fun b o e => ?_, hg2⟩
   injection e with e
   injection e with e
   subst e
   exact ⟨hb5, cur, hg5⟩
end Go.Proofs.YtkiockffejlnhaaGreatDoor
