/- slices.Equal of numbers. -/
import Derived.Test.YtpcgkggpmipiaaaGreatG10
namespace Go.Proofs.YtpcgkggpmipiaaaGreat
set_option maxRecDepth 100000
set_option maxHeartbeats 32000000
open Go.RowKit
set_option linter.unusedVariables false
theorem ckEqual_any {N M : Nat} {w : World} {a b : Option Addr} {ac bc : Nat} {l m : List Int} (hl : NumIn N w a l.length ac (fun i => l.getD i 0)) (hm : NumIn M w b m.length bc (fun i => m.getD i 0)) :
  Calls Tryz.prog 168 #[.slice a l.length ac, .slice b m.length bc] w fun r w' => r = .returned (.bool (l == m)) ∧ w.grownBy w' none := by
 have hll := hl.le
 have hml := hm.le
 have hlx := hl.max
 have hmx := hm.max
 unfold maxLen at hlx hmx
 by_cases he : l.length = m.length
 ·have HL : Hid (∀ W, w.grownBy W none → NumIn N W a l.length ac (fun i => l.getD i 0)) := fun W g => hl.grow g
  have HM : Hid (∀ W, w.grownBy W none → NumIn M W b l.length bc (fun i => m.getD i 0)) := fun W g => by rw [he]; exact hm.grow g
  obtain ⟨R, hR⟩ : ∃ R : Bool, R = (l == m) := ⟨_, rfl⟩
  have HR1 : Hid ((∀ k, k < l.length → l.getD k 0 = m.getD k 0) → R = true) := fun hh => by
   rw [hR, beq_iff_eq]
   refine List.ext_getElem he fun k h1 h2 => ?_
   have := hh k h1
   simpa [List.getD_eq_getElem?_getD, h1, h2] using this
  have HR0 : Hid (∀ k, k < l.length → l.getD k 0 ≠ m.getD k 0 → R = false) := fun k hk hne => by
   rw [hR, beq_eq_false_iff_ne]
   intro e
   exact hne (by rw [e])
  rw [← hR, ← he]
  clear hR hl hm
  generalize l.length = n at *
  have hn' : (n : Int) ≤ 9223372036854775807 := by omega
  clear he hml
  have hbl : n ≤ bc := (HM.out w (World.grownBy.refl _ _)).le
  go_enter Tryz.func168, Tryz.ntmps168
  go_wp2_with fail
  go_loopw [13] (fun ix wr => ∃ k : Nat, ix = .int .i64 k ∧ k ≤ n ∧ w.grownBy wr none ∧ ∀ j, j < k → l.getD j 0 = m.getD j 0) (fun ix _ => n - (intOf ix).toNat)
  case atStart => exact ⟨0, rfl, Nat.zero_le _, World.grownBy.refl _ _, fun j hj => by omega⟩
  case round =>
   obtain ⟨k, rfl, hk, hg, heq⟩ := hrel
   have HG : Hid (w.grownBy wr none) := hg
   have HEq : Hid (∀ j, j < k → l.getD j 0 = m.getD j 0) := heq
   by_cases hkn : k < n
   ·have hkn' : (k : Int) < n := by omega
    obtain ⟨b1, o1, e1, _, c1⟩ := (HL.out wr hg).at hkn
    obtain ⟨b2, o2, e2, _, c2⟩ := (HM.out wr hg).at hkn
    subst e1 e2
    have HN := HR0.out k hkn
    obtain ⟨x, hx⟩ : ∃ x, x = l.getD k 0 := ⟨_, rfl⟩
    obtain ⟨y, hy⟩ : ∃ y, y = m.getD k 0 := ⟨_, rfl⟩
    rw [← hx] at c1 HN
    rw [← hy] at c2 HN
    have HX : Hid (x = l.getD k 0 ∧ y = m.getD k 0) := ⟨hx, hy⟩
    clear hx hy hg heq
    by_cases hxy : x = y
    ·clear HN
     have hb : (x != y) = false := by simp [hxy]
     have HXY : Hid (x = y) := hxy
     clear hxy
     go_wp2_with fail
     go_quiet (fail)
     go_wp2
     go_roundw
     case rel => exact ⟨k + 1, by go_num, by omega, grown_trans HG.out (grown_drewN (World.grownBy.refl _ none) _), fun j hj => by
      by_cases e : j < k
      ·exact HEq.out j e
      ·obtain rfl : j = k := by omega
       rw [← HX.out.1, ← HX.out.2, HXY.out]⟩
     case measure => simp [intOf]; omega
    ·obtain rfl := HN hxy
     have hb : (x != y) = true := by simp [hxy]
     go_wp2_with fail
     go_quiet (fail)
     go_wp2
     go_ret
     exact ⟨rfl, grown_trans HG.out (grown_drewN (World.grownBy.refl _ none) _)⟩
   ·obtain rfl : n = k := by omega
    obtain rfl := HR1.out heq
    clear hg heq
    go_wp2_with fail
    go_ret
    exact ⟨rfl, HG.out⟩
 ·have hb : ((l.length : Int) != m.length) = true := by simp; omega
  have hr : (l == m) = false := by rw [beq_eq_false_iff_ne]; intro e; exact he (by rw [e])
  rw [hr]
  clear hl hm
  generalize l.length = n at *
  generalize m.length = q at *
  go_enter Tryz.func168, Tryz.ntmps168
  go_wp2_with fail
  go_ret
  exact ⟨rfl, World.grownBy.refl _ _⟩
end Go.Proofs.YtpcgkggpmipiaaaGreat
