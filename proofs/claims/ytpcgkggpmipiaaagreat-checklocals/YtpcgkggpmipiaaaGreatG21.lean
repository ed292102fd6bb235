/- check's heads of functions. -/
import Derived.Test.YtpcgkggpmipiaaaGreatG11
namespace Go.Proofs.YtpcgkggpmipiaaaGreat
open Go.RowKit
set_option linter.unusedVariables false
set_option maxRecDepth 100000
set_option maxHeartbeats 8000000
theorem all_take9 {p : Int → Bool} {l : List Int} {k : Nat} (hk : k < l.length) (h : (l.take k).all p = true) (h1 : p l[k] = true) : (l.take (k + 1)).all p = true := by
 rw [List.take_succ_eq_append_getElem hk, List.all_append, h]
 simp [h1]
theorem all_false9 {p : Int → Bool} {l : List Int} {k : Nat} (hk : k < l.length) (h1 : p l[k] = false) : l.all p = false := by
 rw [List.all_eq_false]
 exact ⟨l[k], List.getElem_mem hk, by simp [h1]⟩
theorem ckAllE {M : Nat} {w : World} {ea va : Option Addr} {n ec vc : Nat} {a : Option Addr} {ac : Nat} {l : List Int} {p : Int → Bool} (hl : NumIn M w a l.length ac (fun i => l.getD i 0)) (hp : ∀ x, x ∈ l → ∀ W, w.grownBy W none → Calls Tryz.prog 78 #[.agg #[.slice ea n ec, .slice va n vc], .int .i64 x] W fun r w' => r = .returned (.bool (p x)) ∧ W.grownBy w' none) :
  Calls Tryz.prog 91 #[.slice a l.length ac, .func (.func 78) #[.agg #[.slice ea n ec, .slice va n vc]] #[]] w fun r w' => r = .returned (.bool (l.all p)) ∧ w.grownBy w' none := by
 have hle := hl.le
 have hmx := hl.max
 unfold maxLen at hmx
 have HL : Hid (∀ W, w.grownBy W none → NumIn M W a l.length ac (fun i => l.getD i 0)) := fun W g => hl.grow g
 have HP : Hid (∀ x, x ∈ l → ∀ W, w.grownBy W none → Calls Tryz.prog 78 #[.agg #[.slice ea n ec, .slice va n vc], .int .i64 x] W fun r w' => r = .returned (.bool (p x)) ∧ W.grownBy w' none) := hp
 clear hl hp
 go_enter Tryz.func91, Tryz.ntmps91
 go_wp2_with fail
 go_loopw [9] (fun ix wr => ∃ k : Nat, ix = .int .i64 k ∧ k ≤ l.length ∧ (l.take k).all p = true ∧ w.grownBy wr none) (fun ix _ => l.length - (intOf ix).toNat)
 case atStart => exact ⟨0, rfl, Nat.zero_le _, rfl, World.grownBy.refl _ _⟩
 case round =>
  obtain ⟨k, rfl, hk, ha, hg⟩ := hrel
  have HA : Hid ((l.take k).all p = true) := ha
  have HG : Hid (w.grownBy wr none) := hg
  clear ha hg
  by_cases hkn : k < l.length
  ·have hkn' : (k : Int) < l.length := by omega
   obtain ⟨b, o, rfl, _, c1⟩ := (HL.out wr HG.out).at hkn
   obtain ⟨x, hx⟩ : ∃ x, x = l.getD k 0 := ⟨_, rfl⟩
   have hxk : l[k] = x := by rw [hx, List.getD_eq_getElem?_getD, List.getElem?_eq_getElem hkn]; rfl
   rw [← hx] at c1
   have HC := HP.out x (by rw [← hxk]; exact List.getElem_mem hkn) wr HG.out
   have HT : Hid (p x = true → (l.take (k + 1)).all p = true) := fun h => all_take9 hkn HA.out (by rw [hxk]; exact h)
   have HF : Hid (p x = false → l.all p = false) := fun h => all_false9 hkn (by rw [hxk]; exact h)
   clear hx hxk
   cases hv : p x
   ·rw [hv] at HC
    have HV : Hid (p x = false) := hv
    have HC2 : Hid (Calls Tryz.prog 78 #[.agg #[.slice ea n ec, .slice va n vc], .int .i64 x] wr fun r w' => r = .returned (.bool false) ∧ wr.grownBy w' none) := HC
    clear HC hv
    go_wp2_with (go_at_call 78; refine HC2.out.mono ?_; rintro e w4 ⟨rfl, hg4⟩; have HG4 : Hid (w.grownBy w4 none) := grown_trans HG.out hg4; clear hg4)
    go_ret
    exact ⟨by rw [HF.out HV.out]; rfl, HG4.out⟩
   ·rw [hv] at HC
    have HV : Hid (p x = true) := hv
    have HC2 : Hid (Calls Tryz.prog 78 #[.agg #[.slice ea n ec, .slice va n vc], .int .i64 x] wr fun r w' => r = .returned (.bool true) ∧ wr.grownBy w' none) := HC
    clear HC hv
    go_wp2_with (go_at_call 78; refine HC2.out.mono ?_; rintro e w4 ⟨rfl, hg4⟩; have HG4 : Hid (w.grownBy w4 none) := grown_trans HG.out hg4; clear hg4)
    go_roundw
    case rel => exact ⟨k + 1, by go_num, by omega, HT.out HV.out, HG4.out⟩
    case measure => simp [intOf]; omega
  ·obtain rfl : k = l.length := by omega
   go_wp2
   go_ret
   have e1 := HA.out
   rw [List.take_length] at e1
   exact ⟨by rw [e1]; rfl, HG.out⟩
theorem ckAllV {M : Nat} {w : World} {ea va : Option Addr} {n ec vc : Nat} {a : Option Addr} {ac : Nat} {l : List Int} {p : Int → Bool} (hl : NumIn M w a l.length ac (fun i => l.getD i 0)) (hp : ∀ x, x ∈ l → ∀ W, w.grownBy W none → Calls Tryz.prog 92 #[.agg #[.slice ea n ec, .slice va n vc], .int .i64 x] W fun r w' => r = .returned (.bool (p x)) ∧ W.grownBy w' none) :
  Calls Tryz.prog 91 #[.slice a l.length ac, .func (.func 92) #[.agg #[.slice ea n ec, .slice va n vc]] #[]] w fun r w' => r = .returned (.bool (l.all p)) ∧ w.grownBy w' none := by
 have hle := hl.le
 have hmx := hl.max
 unfold maxLen at hmx
 have HL : Hid (∀ W, w.grownBy W none → NumIn M W a l.length ac (fun i => l.getD i 0)) := fun W g => hl.grow g
 have HP : Hid (∀ x, x ∈ l → ∀ W, w.grownBy W none → Calls Tryz.prog 92 #[.agg #[.slice ea n ec, .slice va n vc], .int .i64 x] W fun r w' => r = .returned (.bool (p x)) ∧ W.grownBy w' none) := hp
 clear hl hp
 go_enter Tryz.func91, Tryz.ntmps91
 go_wp2_with fail
 go_loopw [9] (fun ix wr => ∃ k : Nat, ix = .int .i64 k ∧ k ≤ l.length ∧ (l.take k).all p = true ∧ w.grownBy wr none) (fun ix _ => l.length - (intOf ix).toNat)
 case atStart => exact ⟨0, rfl, Nat.zero_le _, rfl, World.grownBy.refl _ _⟩
 case round =>
  obtain ⟨k, rfl, hk, ha, hg⟩ := hrel
  have HA : Hid ((l.take k).all p = true) := ha
  have HG : Hid (w.grownBy wr none) := hg
  clear ha hg
  by_cases hkn : k < l.length
  ·have hkn' : (k : Int) < l.length := by omega
   obtain ⟨b, o, rfl, _, c1⟩ := (HL.out wr HG.out).at hkn
   obtain ⟨x, hx⟩ : ∃ x, x = l.getD k 0 := ⟨_, rfl⟩
   have hxk : l[k] = x := by rw [hx, List.getD_eq_getElem?_getD, List.getElem?_eq_getElem hkn]; rfl
   rw [← hx] at c1
   have HC := HP.out x (by rw [← hxk]; exact List.getElem_mem hkn) wr HG.out
   have HT : Hid (p x = true → (l.take (k + 1)).all p = true) := fun h => all_take9 hkn HA.out (by rw [hxk]; exact h)
   have HF : Hid (p x = false → l.all p = false) := fun h => all_false9 hkn (by rw [hxk]; exact h)
   clear hx hxk
   cases hv : p x
   ·rw [hv] at HC
    have HV : Hid (p x = false) := hv
    have HC2 : Hid (Calls Tryz.prog 92 #[.agg #[.slice ea n ec, .slice va n vc], .int .i64 x] wr fun r w' => r = .returned (.bool false) ∧ wr.grownBy w' none) := HC
    clear HC hv
    go_wp2_with (go_at_call 92; refine HC2.out.mono ?_; rintro e w4 ⟨rfl, hg4⟩; have HG4 : Hid (w.grownBy w4 none) := grown_trans HG.out hg4; clear hg4)
    go_ret
    exact ⟨by rw [HF.out HV.out]; rfl, HG4.out⟩
   ·rw [hv] at HC
    have HV : Hid (p x = true) := hv
    have HC2 : Hid (Calls Tryz.prog 92 #[.agg #[.slice ea n ec, .slice va n vc], .int .i64 x] wr fun r w' => r = .returned (.bool true) ∧ wr.grownBy w' none) := HC
    clear HC hv
    go_wp2_with (go_at_call 92; refine HC2.out.mono ?_; rintro e w4 ⟨rfl, hg4⟩; have HG4 : Hid (w.grownBy w4 none) := grown_trans HG.out hg4; clear hg4)
    go_roundw
    case rel => exact ⟨k + 1, by go_num, by omega, HT.out HV.out, HG4.out⟩
    case measure => simp [intOf]; omega
  ·obtain rfl : k = l.length := by omega
   go_wp2
   go_ret
   have e1 := HA.out
   rw [List.take_length] at e1
   exact ⟨by rw [e1]; rfl, HG.out⟩
theorem ckAllP {M : Nat} {w : World} {ea va : Option Addr} {n ec vc : Nat} {a : Option Addr} {ac : Nat} {l : List Int} {p : Int → Bool} (hl : NumIn M w a l.length ac (fun i => l.getD i 0)) (hp : ∀ x, x ∈ l → ∀ W, w.grownBy W none → Calls Tryz.prog 94 #[.agg #[.slice ea n ec, .slice va n vc], .int .i64 x] W fun r w' => r = .returned (.bool (p x)) ∧ W.grownBy w' none) :
  Calls Tryz.prog 91 #[.slice a l.length ac, .func (.func 94) #[.agg #[.slice ea n ec, .slice va n vc]] #[]] w fun r w' => r = .returned (.bool (l.all p)) ∧ w.grownBy w' none := by
 have hle := hl.le
 have hmx := hl.max
 unfold maxLen at hmx
 have HL : Hid (∀ W, w.grownBy W none → NumIn M W a l.length ac (fun i => l.getD i 0)) := fun W g => hl.grow g
 have HP : Hid (∀ x, x ∈ l → ∀ W, w.grownBy W none → Calls Tryz.prog 94 #[.agg #[.slice ea n ec, .slice va n vc], .int .i64 x] W fun r w' => r = .returned (.bool (p x)) ∧ W.grownBy w' none) := hp
 clear hl hp
 go_enter Tryz.func91, Tryz.ntmps91
 go_wp2_with fail
 go_loopw [9] (fun ix wr => ∃ k : Nat, ix = .int .i64 k ∧ k ≤ l.length ∧ (l.take k).all p = true ∧ w.grownBy wr none) (fun ix _ => l.length - (intOf ix).toNat)
 case atStart => exact ⟨0, rfl, Nat.zero_le _, rfl, World.grownBy.refl _ _⟩
 case round =>
  obtain ⟨k, rfl, hk, ha, hg⟩ := hrel
  have HA : Hid ((l.take k).all p = true) := ha
  have HG : Hid (w.grownBy wr none) := hg
  clear ha hg
  by_cases hkn : k < l.length
  ·have hkn' : (k : Int) < l.length := by omega
   obtain ⟨b, o, rfl, _, c1⟩ := (HL.out wr HG.out).at hkn
   obtain ⟨x, hx⟩ : ∃ x, x = l.getD k 0 := ⟨_, rfl⟩
   have hxk : l[k] = x := by rw [hx, List.getD_eq_getElem?_getD, List.getElem?_eq_getElem hkn]; rfl
   rw [← hx] at c1
   have HC := HP.out x (by rw [← hxk]; exact List.getElem_mem hkn) wr HG.out
   have HT : Hid (p x = true → (l.take (k + 1)).all p = true) := fun h => all_take9 hkn HA.out (by rw [hxk]; exact h)
   have HF : Hid (p x = false → l.all p = false) := fun h => all_false9 hkn (by rw [hxk]; exact h)
   clear hx hxk
   cases hv : p x
   ·rw [hv] at HC
    have HV : Hid (p x = false) := hv
    have HC2 : Hid (Calls Tryz.prog 94 #[.agg #[.slice ea n ec, .slice va n vc], .int .i64 x] wr fun r w' => r = .returned (.bool false) ∧ wr.grownBy w' none) := HC
    clear HC hv
    go_wp2_with (go_at_call 94; refine HC2.out.mono ?_; rintro e w4 ⟨rfl, hg4⟩; have HG4 : Hid (w.grownBy w4 none) := grown_trans HG.out hg4; clear hg4)
    go_ret
    exact ⟨by rw [HF.out HV.out]; rfl, HG4.out⟩
   ·rw [hv] at HC
    have HV : Hid (p x = true) := hv
    have HC2 : Hid (Calls Tryz.prog 94 #[.agg #[.slice ea n ec, .slice va n vc], .int .i64 x] wr fun r w' => r = .returned (.bool true) ∧ wr.grownBy w' none) := HC
    clear HC hv
    go_wp2_with (go_at_call 94; refine HC2.out.mono ?_; rintro e w4 ⟨rfl, hg4⟩; have HG4 : Hid (w.grownBy w4 none) := grown_trans HG.out hg4; clear hg4)
    go_roundw
    case rel => exact ⟨k + 1, by go_num, by omega, HT.out HV.out, HG4.out⟩
    case measure => simp [intOf]; omega
  ·obtain rfl : k = l.length := by omega
   go_wp2
   go_ret
   have e1 := HA.out
   rw [List.take_length] at e1
   exact ⟨by rw [e1]; rfl, HG.out⟩
end Go.Proofs.YtpcgkggpmipiaaaGreat
