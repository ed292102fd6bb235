/- How a table of types lies; types' small functions. -/
import Derived.Test.YtdfjaedafampaaaG2
import Derived.BigGuardPart
namespace Go.Proofs.Ytdfjaedafampaaa
open Go.RowKit
set_option linter.unusedVariables false

/-- an entry at a place, its fields elsewhere -/
structure TyC (N : Nat) (w : World) (b o : Nat) (x : Ty.TyV) (fa : Option Addr) (fc : Nat) : Prop where
  c0 : w.cell? ⟨b, o, none⟩ = some (.int .i64 x.kind)
  c1 : w.cell? ⟨b, o + 1, none⟩ = some (.int .i64 x.elem)
  c2 : w.cell? ⟨b, o + 2, none⟩ = some (.int .i64 x.n)
  c3 : w.cell? ⟨b, o + 3, none⟩ = some (.slice fa x.nf fc)
  f : NumIn N w fa x.nf fc x.F
  nz : fa = none → x.nf = 0 ∧ fc = 0
theorem TyC.ch {N : Nat} {w w' : World} {b o : Nat} {x : Ty.TyV} {fa : Option Addr} {fc : Nat} {l : List Nat} (h : TyC N w b o x fa fc) (hg : Ch w w' l) (hl : ∀ k, k ∈ l → N ≤ k) (hb : b ∉ l) : TyC N w' b o x fa fc :=
  ⟨hg.cell h.c0 hb, hg.cell h.c1 hb, hg.cell h.c2 hb, hg.cell h.c3 hb, h.f.ch hg hl, h.nz⟩
/-- a table, below block N -/
structure TysIn (N : Nat) (w : World) (a : Option Addr) (n c : Nat) (T : Nat → Ty.TyV) : Prop where
  le : n ≤ c
  max : c ≤ maxLen
  lie : n = 0 ∨ ∃ b off, a = some ⟨b, off, none⟩ ∧ b < N ∧ ∀ i, i < n → ∃ fa fc, TyC N w b (off + i * 4) (T i) fa fc
theorem TysIn.ch {N : Nat} {w w' : World} {a : Option Addr} {n c : Nat} {T : Nat → Ty.TyV} {l : List Nat} (h : TysIn N w a n c T) (hg : Ch w w' l) (hl : ∀ k, k ∈ l → N ≤ k) : TysIn N w' a n c T :=
  ⟨h.le, h.max, by
    rcases h.lie with h0 | ⟨b, off, e, hb, hi⟩
    · exact .inl h0
    · exact .inr ⟨b, off, e, hb, fun i hi' => by obtain ⟨fa, fc, hc⟩ := hi i hi'; exact ⟨fa, fc, hc.ch hg hl (fun hm => by have := hl b hm; omega)⟩⟩⟩
theorem TysIn.at {N : Nat} {w : World} {a : Option Addr} {n c : Nat} {T : Nat → Ty.TyV} (h : TysIn N w a n c T) {i : Nat} (hi : i < n) : ∃ b off fa fc, a = some ⟨b, off, none⟩ ∧ b < N ∧ TyC N w b (off + i * 4) (T i) fa fc := by
  rcases h.lie with h0 | ⟨b, off, e, hb, hh⟩
  · omega
  · obtain ⟨fa, fc, hc⟩ := hh i hi
    exact ⟨b, off, fa, fc, e, hb, hc⟩
theorem NumIn.up {N M : Nat} {w : World} {a : Option Addr} {n c : Nat} {F : Nat → Int} (h : NumIn N w a n c F) (hM : N ≤ M) : NumIn M w a n c F :=
  ⟨h.le, h.max, by
    rcases h.lie with h0 | ⟨b, off, e, hb, hi⟩
    · exact .inl h0
    · exact .inr ⟨b, off, e, Nat.lt_of_lt_of_le hb hM, hi⟩⟩
theorem TysIn.up {N M : Nat} {w : World} {a : Option Addr} {n c : Nat} {T : Nat → Ty.TyV} (h : TysIn N w a n c T) (hM : N ≤ M) : TysIn M w a n c T :=
  ⟨h.le, h.max, by
    rcases h.lie with h0 | ⟨b, off, e, hb, hi⟩
    · exact .inl h0
    · exact .inr ⟨b, off, e, Nat.lt_of_lt_of_le hb hM, fun i hi' => by obtain ⟨fa, fc, hc⟩ := hi i hi'; exact ⟨fa, fc, hc.c0, hc.c1, hc.c2, hc.c3, hc.f.up hM, hc.nz⟩⟩⟩

theorem nm_any (many x : Int) (w : World) : Calls Try.prog 51 #[.int .i64 many, .int .i64 x] w fun e w' => e = .returned (.bool (Ty.nmB many x)) ∧ w' = w := by
  go_enter Try.func51, Try.ntmps51
  go_wp2
  all_goals (go_ret; refine ⟨ret_bool ?_, rfl⟩; unfold Ty.nmB; first | rfl | (rw [Bool.eq_iff_iff]; simp at *; try omega))
theorem up_any {n a : Int} (ha : Ty.Al a) (h0 : 0 ≤ n) (h1 : n ≤ 1099511627776) (w : World) : Calls Try.prog 61 #[.int .i64 n, .int .i64 a] w fun e w' => e = .returned (.int .i64 (Ty.up n a)) ∧ w' = w := by
  rcases ha with rfl | rfl | rfl | rfl
  all_goals (
    go_enter Try.func61, Try.ntmps61
    go_wp2
    go_ret
    refine ⟨ret_i64 ?_, rfl⟩
    unfold Ty.up
    try omega)
theorem large_any (l : Ty.Li) (w : World) : Calls Try.prog 39 #[.agg #[.int .i64 l.size, .int .i64 l.align, .int .i64 l.words, .bool l.arr]] w fun e w' => e = .returned (.bool (decide (65536 < l.size))) ∧ w.grownBy w' none := by
  go_enter Try.func39, Try.ntmps39
  go_wp2
  go_ret
  exact ⟨rfl, World.grownBy_alloc _ _ _⟩
def Ty.valB (l : Ty.Li) : Bool := !l.arr && decide (l.words ≤ 16)
theorem value_any (l : Ty.Li) (w : World) : Calls Try.prog 41 #[.agg #[.int .i64 l.size, .int .i64 l.align, .int .i64 l.words, .bool l.arr]] w fun e w' => e = .returned (.bool (Ty.valB l)) ∧ w.grownBy w' none := by
  obtain ⟨s, a, k, r⟩ := l
  unfold Ty.valB
  simp only
  cases r
  all_goals (
    go_enter Try.func41, Try.ntmps41
    go_wp2
    all_goals (go_ret; exact ⟨by first | rfl | simp_all, World.grownBy_alloc _ _ _⟩))
theorem Ty.fld_no {x : Ty.TyV} {i k : Nat} (hk : k < x.nf) (h : Ty.nmB i (x.F k) = false) : Ty.fldB x i = false := by
  cases hh : Ty.fldB x i
  · rfl
  · have h1 := (Ty.fldB_iff.1 hh).2 k hk
    rw [Ty.nmB_iff.2 h1] at h
    cases h
set_option maxRecDepth 100000 in
set_option maxHeartbeats 4000000 in
theorem flds_any {N : Nat} {w : World} {x : Ty.TyV} {fa : Option Addr} {fc : Nat} (h : NumIn N w fa x.nf fc x.F) (i : Nat) :
    Calls Try.prog 58 #[.slice fa x.nf fc, .int .i64 i] w fun e w' => e = .returned (.bool (Ty.fldB x i)) ∧ w' = w := by
  have hle := h.le
  have hmx := h.max
  unfold maxLen at hmx
  by_cases h16 : x.nf ≤ 16
  · have h16' : (x.nf : Int) ≤ 16 := by omega
    obtain ⟨R, hR⟩ : ∃ R, R = Ty.fldB x i := ⟨_, rfl⟩
    rw [← hR]
    have HR : Hid (R = Ty.fldB x i) := hR
    clear hR
    obtain ⟨n, hn⟩ : ∃ n, n = x.nf := ⟨_, rfl⟩
    have Hn : Hid (n = x.nf) := hn
    rw [← hn] at h16' hle ⊢
    have H : Hid (NumIn N w fa n fc x.F) := by show NumIn _ _ _ _ _ _; rw [hn]; exact h
    clear hn h
    go_enter Try.func58, Try.ntmps58
    go_wp2_with fail
    go_loopw [12] (fun ix wr => ∃ k : Nat, ix = .int .i64 k ∧ k ≤ n ∧ (∀ j, j < k → Ty.nmB i (x.F j) = true) ∧ wr = w) (fun ix _ => n - (intOf ix).toNat)
    case atStart => exact ⟨0, rfl, Nat.zero_le _, fun j hj => by omega, rfl⟩
    case round =>
      obtain ⟨k, rfl, hk, hj, rfl⟩ := hrel
      by_cases hkn : k < n
      · have hkn' : (k : Int) < n := by omega
        obtain ⟨b, off, rfl, hb, hc⟩ := H.out.at hkn
        cases hm : Ty.nmB i (x.F k)
        · have HC : Hid (∀ W, Calls Try.prog 51 #[.int .i64 i, .int .i64 (x.F k)] W fun e w' => e = .returned (.bool false) ∧ w' = W) := fun W => by rw [← hm]; exact nm_any _ _ _
          have e : R = false := HR.out.trans (Ty.fld_no (by rw [← Hn.out]; exact hkn) hm)
          generalize x.F k = y at *
          clear hj
          go_wp2_with (go_at_call 51; refine (HC.out _).mono ?_; rintro e w3 ⟨rfl, rfl⟩)
          go_ret
          exact ⟨by rw [e]; rfl, rfl⟩
        · have HC : Hid (∀ W, Calls Try.prog 51 #[.int .i64 i, .int .i64 (x.F k)] W fun e w' => e = .returned (.bool true) ∧ w' = W) := fun W => by rw [← hm]; exact nm_any _ _ _
          have HJ : Hid (∀ j, j < k + 1 → Ty.nmB i (x.F j) = true) := fun j hj' => by
            by_cases e : j = k
            · subst e; exact hm
            · exact hj j (by omega)
          clear hj hm
          generalize x.F k = y at hc HC
          go_wp2_with (go_at_call 51; refine (HC.out _).mono ?_; rintro e w3 ⟨rfl, rfl⟩)
          go_roundw
          case rel => exact ⟨k + 1, by go_num, by omega, HJ.out, by first | rfl | trivial⟩
          case measure => simp [intOf]; omega
      · obtain rfl : k = n := by omega
        have e : R = true := HR.out.trans (Ty.fldB_iff.2 ⟨h16, fun j hj' => Ty.nmB_iff.1 (hj j (by rw [Hn.out]; exact hj'))⟩)
        clear hj
        go_wp2
        go_ret
        exact ⟨by rw [e]; rfl, rfl⟩
  · have h16' : (16 : Int) < x.nf := by omega
    have e : Ty.fldB x i = false := by
      cases hh : Ty.fldB x i
      · rfl
      · have := (Ty.fldB_iff.1 hh).1; omega
    rw [e]
    clear e h
    generalize x.nf = n at *
    go_enter Try.func58, Try.ntmps58
    go_wp2
    go_ret
    exact ⟨rfl, rfl⟩
set_option maxRecDepth 100000 in
set_option maxHeartbeats 8000000 in
theorem entry_any {N : Nat} {w : World} {x : Ty.TyV} {fa : Option Addr} {fc : Nat} (h : NumIn N w fa x.nf fc x.F) (i n : Nat) :
    Calls Try.prog 48 #[.agg #[.int .i64 x.kind, .int .i64 x.elem, .int .i64 x.n, .slice fa x.nf fc], .int .i64 i, .int .i64 n] w fun e w' => e = .returned (.bool (Ty.okB x i n)) ∧ w.grownBy w' none := by
  have hle := h.le
  have hmx := h.max
  unfold maxLen at hmx
  have HF : Hid (∀ W, w.grownBy W none → Calls Try.prog 58 #[.slice fa x.nf fc, .int .i64 i] W fun e w' => e = .returned (.bool (Ty.fldB x i)) ∧ w' = W) := fun W hg => flds_any (h.ch (l := []) (Ch.of hg) (by simp)) i
  have HN : Hid (∀ m y W, Calls Try.prog 51 #[.int .i64 m, .int .i64 y] W fun e w' => e = .returned (.bool (Ty.nmB m y)) ∧ w' = W) := nm_any
  have hz : (x.nf == 0) = ((x.nf : Int) == 0) := by rw [Bool.eq_iff_iff]; simp
  obtain ⟨R, hR⟩ : ∃ R, R = Ty.okB x i n := ⟨_, rfl⟩
  rw [← hR]
  unfold Ty.okB at hR
  rw [hz] at hR
  have HG : Hid (w.grownBy (w.alloc (Obj.cells #[.int .i64 x.kind, .int .i64 x.elem, .int .i64 x.n, .slice fa x.nf fc] 50)) none) := World.grownBy_alloc w _ none
  clear h hz
  generalize Ty.fldB x i = fb at *
  obtain ⟨k, el, nn, nf, F⟩ := x
  simp only at *
  have hc : k = 11 ∨ k = 14 ∨ k = 12 ∨ k = 13 ∨ ((k == 11) = false ∧ (k == 14) = false ∧ (k == 12) = false ∧ (k == 13) = false) := by
    simp only [beq_eq_false_iff_ne]; omega
  rcases hc with rfl | rfl | rfl | rfl | ⟨k1, k2, k3, k4⟩
  · rw [if_pos (by decide)] at hR
    have HC : Hid (∀ W, Calls Try.prog 51 #[.int .i64 n, .int .i64 el] W fun e w' => e = .returned (.bool (Ty.nmB n el)) ∧ w' = W) := HN.out n el
    generalize Ty.nmB n el = b1 at *
    clear HN HF
    have hq : b1 = false ∨ (b1 = true ∧ (nn == 0) = false) ∨ (b1 = true ∧ (nn == 0) = true ∧ ((nf : Int) == 0) = false) ∨ (b1 = true ∧ (nn == 0) = true ∧ ((nf : Int) == 0) = true) := by
      cases b1 <;> cases nn == 0 <;> cases (nf : Int) == 0 <;> simp
    rcases hq with rfl | ⟨rfl, e2⟩ | ⟨rfl, e2, e3⟩ | ⟨rfl, e2, e3⟩
    all_goals (
      simp [*] at hR
      subst hR
      go_enter Try.func48, Try.ntmps48
      go_wp2_with ((go_at_call 51; refine (HC.out _).mono ?_; rintro e w3 ⟨rfl, rfl⟩))
      go_ret
      exact ⟨rfl, HG.out⟩)
  · rw [if_pos (by decide)] at hR
    have HC : Hid (∀ W, Calls Try.prog 51 #[.int .i64 n, .int .i64 el] W fun e w' => e = .returned (.bool (Ty.nmB n el)) ∧ w' = W) := HN.out n el
    generalize Ty.nmB n el = b1 at *
    clear HN HF
    have hq : b1 = false ∨ (b1 = true ∧ (nn == 0) = false) ∨ (b1 = true ∧ (nn == 0) = true ∧ ((nf : Int) == 0) = false) ∨ (b1 = true ∧ (nn == 0) = true ∧ ((nf : Int) == 0) = true) := by
      cases b1 <;> cases nn == 0 <;> cases (nf : Int) == 0 <;> simp
    rcases hq with rfl | ⟨rfl, e2⟩ | ⟨rfl, e2, e3⟩ | ⟨rfl, e2, e3⟩
    all_goals (
      simp [*] at hR
      subst hR
      go_enter Try.func48, Try.ntmps48
      go_wp2_with ((go_at_call 51; refine (HC.out _).mono ?_; rintro e w3 ⟨rfl, rfl⟩))
      go_ret
      exact ⟨rfl, HG.out⟩)
  · rw [if_neg (by decide), if_pos rfl] at hR
    have HC : Hid (∀ W, Calls Try.prog 51 #[.int .i64 i, .int .i64 el] W fun e w' => e = .returned (.bool (Ty.nmB i el)) ∧ w' = W) := HN.out i el
    generalize Ty.nmB i el = b1 at *
    have HD : Hid (∀ W, Calls Try.prog 51 #[.int .i64 65537, .int .i64 nn] W fun e w' => e = .returned (.bool (Ty.nmB 65537 nn)) ∧ w' = W) := HN.out 65537 nn
    generalize Ty.nmB 65537 nn = b2 at *
    clear HN HF
    cases b1 <;> cases b2 <;> cases e3 : (nf : Int) == 0
    all_goals (
      simp [e3] at hR
      subst hR
      go_enter Try.func48, Try.ntmps48
      go_wp2_with (first | (go_at_call_of 51 (Value.int .i64 (i : Int)); refine (HC.out _).mono ?_; rintro e w3 ⟨rfl, rfl⟩) | (go_at_call 51; refine (HD.out _).mono ?_; rintro e w3 ⟨rfl, rfl⟩))
      go_ret
      exact ⟨rfl, HG.out⟩)
  · rw [if_neg (by decide), if_neg (by decide), if_pos rfl] at hR
    have HD := HF.out _ HG.out
    have HD' : Hid (Calls Try.prog 58 #[.slice fa nf fc, .int .i64 i] (w.alloc (Obj.cells #[.int .i64 13, .int .i64 el, .int .i64 nn, .slice fa nf fc] 50)) fun e w' => e = .returned (.bool fb) ∧ w' = (w.alloc (Obj.cells #[.int .i64 13, .int .i64 el, .int .i64 nn, .slice fa nf fc] 50))) := HD
    clear HN HF HD
    cases fb <;> cases e1 : el == 0 <;> cases e2 : nn == 0
    all_goals (
      simp [e1, e2] at hR
      subst hR
      go_enter Try.func48, Try.ntmps48
      go_wp2_with (go_at_call 58; refine HD'.out.mono ?_; rintro e w3 ⟨rfl, rfl⟩)
      go_ret
      exact ⟨rfl, HG.out⟩)
  · rw [if_neg (by simp_all), if_neg (by simp_all), if_neg (by simp_all)] at hR
    clear HN HF
    have hp : (k == 15) = true ∨ ((k == 15) = false ∧ decide (1 ≤ k) = true ∧ decide (k ≤ 10) = true) ∨ ((k == 15) = false ∧ decide (1 ≤ k) = true ∧ decide (k ≤ 10) = false) ∨ ((k == 15) = false ∧ decide (1 ≤ k) = false) := by
      cases k == 15 <;> cases decide (1 ≤ k) <;> cases decide (k ≤ 10) <;> simp
    have hq : (el == 0) = false ∨ ((el == 0) = true ∧ (nn == 0) = false) ∨ ((el == 0) = true ∧ (nn == 0) = true ∧ ((nf : Int) == 0) = false) ∨ ((el == 0) = true ∧ (nn == 0) = true ∧ ((nf : Int) == 0) = true) := by
      cases el == 0 <;> cases nn == 0 <;> cases (nf : Int) == 0 <;> simp
    rcases hp with e0 | ⟨e0, e4, e5⟩ | ⟨e0, e4, e5⟩ | ⟨e0, e4⟩
    · rcases hq with e1 | ⟨e1, e2⟩ | ⟨e1, e2, e3⟩ | ⟨e1, e2, e3⟩
      all_goals (
        simp only [*, Bool.true_or, Bool.and_true, Bool.and_false, Bool.false_and] at hR
        subst hR
        go_enter Try.func48, Try.ntmps48
        go_wp2
        go_ret
        exact ⟨rfl, HG.out⟩)
    · rcases hq with e1 | ⟨e1, e2⟩ | ⟨e1, e2, e3⟩ | ⟨e1, e2, e3⟩
      all_goals (
        simp only [*, Bool.false_or, Bool.and_true, Bool.and_false, Bool.false_and] at hR
        subst hR
        go_enter Try.func48, Try.ntmps48
        go_wp2
        go_ret
        exact ⟨rfl, HG.out⟩)
    · simp only [e0, e4, e5, Bool.and_false, Bool.false_or, Bool.false_and] at hR
      subst hR
      clear hq
      go_enter Try.func48, Try.ntmps48
      go_wp2
      go_ret
      exact ⟨rfl, HG.out⟩
    · simp only [e0, e4, Bool.false_or, Bool.false_and] at hR
      subst hR
      clear hq
      go_enter Try.func48, Try.ntmps48
      go_wp2
      go_ret
      exact ⟨rfl, HG.out⟩
end Go.Proofs.Ytdfjaedafampaaa
