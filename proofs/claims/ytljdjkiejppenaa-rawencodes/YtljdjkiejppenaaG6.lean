/- Contracts and plain facts that the walks share. -/
import Derived.Test.YtljdjkiejppenaaPgEq
namespace Go.Proofs.Ytljdjkiejppenaa
open Go.RowKit
set_option linter.unusedVariables false
namespace Pg
def okB (n : Int) : Bool := decide (0 ≤ n) && decide (n < 2147483648)
mutual
def Ex.may : Ex → Bool
  | .mk op t _ s args => mayEs args && (okB op && okB t && decide ((s.size : Int) ≤ 256))
def mayEs : List Ex → Bool
  | [] => true
  | x :: l => x.may && mayEs l
end
theorem mayEs_all (l : List Ex) : mayEs l = l.all Ex.may := by
  induction l with
  | nil => rfl
  | cons x l ih => simp only [mayEs, ih, List.all_cons]
theorem Ex.may_eq (x : Ex) : x.may = (x.args.all Ex.may && (okB x.op && okB x.t && decide ((x.s.size : Int) ≤ 256))) := by
  obtain ⟨_, _, _, _, _⟩ := x
  rw [Ex.may, mayEs_all]
  rfl
end Pg
theorem all_take_succ {α : Type} {p : α → Bool} {l : List α} {k : Nat} (hk : k < l.length) (h : (l.take k).all p = true) (h1 : p l[k] = true) : (l.take (k + 1)).all p = true := by
  rw [List.take_succ_eq_append_getElem hk, List.all_append, h]
  simp [h1]
theorem all_false {α : Type} {p : α → Bool} {l : List α} {k : Nat} (hk : k < l.length) (h1 : p l[k] = false) : l.all p = false := by
  rw [List.all_eq_false]
  exact ⟨l[k], List.getElem_mem hk, by simp [h1]⟩
set_option maxRecDepth 100000 in
theorem ok8 {n : Int} {v : Bool} (hv : Pg.okB n = v) (w : World) : Calls Try.prog 49 #[.int .i64 n] w fun e w' => e = .returned (.bool v) ∧ w' = w := by
  subst hv
  by_cases h0 : 0 ≤ n
  · by_cases h1 : n < 2147483648
    · have d0 : decide (0 ≤ n) = true := by simpa using h0
      have d1 : decide (n < 2147483648) = true := by simpa using h1
      have hv : Pg.okB n = true := by simp [Pg.okB, h0, h1]
      rw [hv]
      clear hv
      go_enter Try.func49, Try.ntmps49
      go_wp2
      go_ret
      exact ⟨rfl, rfl⟩
    · have d0 : decide (0 ≤ n) = true := by simpa using h0
      have d1 : decide (n < 2147483648) = false := by simpa using h1
      have hv : Pg.okB n = false := by simp [Pg.okB, h1]
      rw [hv]
      clear hv
      go_enter Try.func49, Try.ntmps49
      go_wp2
      go_ret
      exact ⟨rfl, rfl⟩
  · have d0 : decide (0 ≤ n) = false := by simpa using h0
    have hv : Pg.okB n = false := by simp [Pg.okB, h0]
    rw [hv]
    clear hv
    go_enter Try.func49, Try.ntmps49
    go_wp2
    go_ret
    exact ⟨rfl, rfl⟩
set_option maxRecDepth 100000 in
set_option maxHeartbeats 8000000 in
theorem oks8 {B : Nat → Prop} {w : World} {a : Option Addr} {c : Nat} {l : List Int} (h : NumL B w a c l) : Calls Try.prog 50 #[.slice a l.length c] w fun e w' => e = .returned (.bool (l.all Pg.okB)) ∧ w' = w := by
  have hle := h.le
  have hmx := h.max
  unfold maxLen at hmx
  have HL : Hid (NumL B w a c l) := h
  clear h
  go_enter Try.func50, Try.ntmps50
  go_wp2_with fail
  go_loopw [3] (fun ix wr => ∃ k : Nat, ix = .int .i64 k ∧ k ≤ l.length ∧ (l.take k).all Pg.okB = true ∧ wr = w) (fun ix _ => l.length - (intOf ix).toNat)
  case atStart => exact ⟨0, rfl, Nat.zero_le _, rfl, rfl⟩
  case round =>
    obtain ⟨k, rfl, hk, ha, rfl⟩ := hrel
    have HA : Hid ((l.take k).all Pg.okB = true) := ha
    clear ha
    by_cases hkn : k < l.length
    · have hkn' : (k : Int) < l.length := by omega
      obtain ⟨b, o, rfl, _, c1⟩ := HL.out.at hkn
      have c1 : wr.cell? ⟨b, o + k, none⟩ = some (.int .i64 l[k]) := by rw [Nat.mul_one] at c1; exact c1
      have HT : Hid (Pg.okB l[k] = true → (l.take (k + 1)).all Pg.okB = true) := all_take_succ hkn HA.out
      have HF : Hid (Pg.okB l[k] = false → l.all Pg.okB = false) := all_false hkn
      generalize l[k] = y at *
      cases hv : Pg.okB y
      · have HV : Hid (Pg.okB y = false) := hv
        clear hv
        go_wp2_with (go_at_call 49; refine (ok8 HV.out _).mono ?_; rintro e w4 ⟨rfl, hw4⟩; rw [hw4]; clear hw4 w4)
        go_ret
        exact ⟨by rw [HF.out HV.out]; rfl, rfl⟩
      · have HV : Hid (Pg.okB y = true) := hv
        clear hv
        go_wp2_with (go_at_call 49; refine (ok8 HV.out _).mono ?_; rintro e w4 ⟨rfl, hw4⟩; rw [hw4]; clear hw4 w4)
        go_roundw
        case rel => exact ⟨k + 1, by go_num, by omega, HT.out HV.out, by trivial⟩
        case measure => simp [intOf]; omega
    · obtain rfl : k = l.length := by omega
      go_wp2
      go_ret
      have := HA.out
      rw [List.take_length] at this
      exact ⟨by rw [this]; rfl, rfl⟩
def MayX (x : Pg.Ex) : Prop := ∀ (B : Nat → Prop) (w : World) (a : Option Addr) (c : Nat), ExL B w a c x.args →
  Calls Try.prog 72 #[.agg #[.int .i64 x.op, .int .i64 x.t, .int .i64 x.n, .string x.s, .slice a x.args.length c]] w fun e w' => e = .returned (.bool x.may) ∧ w.grownBy w' none
set_option maxRecDepth 100000 in
set_option maxHeartbeats 8000000 in
theorem mayExpr_one (x : Pg.Ex) (ih : ∀ y, y ∈ x.args → MayX y) : MayX x := by
  intro B w a c h
  have hle := h.le
  have hmx := h.max
  unfold maxLen at hmx
  obtain ⟨W1, hW1⟩ : ∃ W1, W1 = w.alloc (.cells #[.int .i64 x.op, .int .i64 x.t, .int .i64 x.n, .string x.s, .slice a x.args.length c] 94) := ⟨_, rfl⟩
  have HW1 : Hid (W1 = w.alloc (.cells #[.int .i64 x.op, .int .i64 x.t, .int .i64 x.n, .string x.s, .slice a x.args.length c] 94)) := hW1
  have g1 : w.grownBy W1 none := by rw [hW1]; exact World.grownBy_alloc _ _ _
  have HG1 : Hid (w.grownBy W1 none) := g1
  have HK : Hid (∀ W, W1.grownBy W none → ∀ j v, (#[.int .i64 x.op, .int .i64 x.t, .int .i64 x.n, .string x.s, .slice a x.args.length c] : Array Value)[j]? = some v → W.cell? ⟨w.heap.size, j, none⟩ = some v) := fun W g j v hv => g.cell (by rw [hW1, ← hv]; exact cells_new _ _ rfl _) (by simp)
  have HL : Hid (∀ W, W1.grownBy W none → ExL B W a c x.args) := fun W g => ExL.grow h (grown_trans g1 g)
  have HI : Hid (∀ y, y ∈ x.args → MayX y) := ih
  have HX : Hid (x.may = (x.args.all Pg.Ex.may && (Pg.okB x.op && Pg.okB x.t && decide ((x.s.size : Int) ≤ 256)))) := Pg.Ex.may_eq x
  clear h ih g1 hW1
  go_enter Try.func72, Try.ntmps72
  go_wp2_with fail
  go_loopw [3] (fun ix wr => ∃ k : Nat, ix = .int .i64 k ∧ k ≤ x.args.length ∧ (x.args.take k).all Pg.Ex.may = true ∧ W1.grownBy wr none) (fun ix _ => x.args.length - (intOf ix).toNat)
  case atStart => exact ⟨0, rfl, Nat.zero_le _, rfl, by rw [HW1.out]; exact World.grownBy.refl _ _⟩
  case round =>
    obtain ⟨k, rfl, hk, ha, hg⟩ := hrel
    have HA : Hid ((x.args.take k).all Pg.Ex.may = true) := ha
    have HG : Hid (W1.grownBy wr none) := hg
    have e4 := HK.out wr hg 4 _ rfl
    clear ha
    by_cases hkn : k < x.args.length
    · have hkn' : (k : Int) < x.args.length := by omega
      obtain ⟨b, o, rfl, _, hx⟩ := (HL.out wr hg).at hkn
      obtain ⟨a1, k1, he⟩ := hx.row
      have HC := HI.out x.args[k] (List.getElem_mem hkn) B wr a1 k1 he.args
      have HT : Hid (x.args[k].may = true → (x.args.take (k + 1)).all Pg.Ex.may = true) := all_take_succ hkn HA.out
      have HF : Hid (x.args[k].may = false → x.args.all Pg.Ex.may = false) := all_false hkn
      have c0 := he.c0
      have c1 := he.c1
      have c2 := he.c2
      have c3 := he.c3
      have c4 := he.c4
      clear hx he hg
      generalize x.args[k] = y at *
      have HC : Hid (Calls Try.prog 72 #[.agg #[.int .i64 y.op, .int .i64 y.t, .int .i64 y.n, .string y.s, .slice a1 y.args.length k1]] wr fun e w' => e = .returned (.bool y.may) ∧ wr.grownBy w' none) := HC
      cases hv : y.may
      · have HV : Hid (y.may = false) := hv
        rw [hv] at HC
        clear hv
        go_wp2_with (go_at_call 72; refine HC.out.mono ?_; rintro e w4 ⟨rfl, hg4⟩; have G4 : Hid (wr.grownBy w4 none) := hg4; clear hg4)
        go_ret
        exact ⟨by rw [HX.out, HF.out HV.out]; rfl, grown_trans HG1.out (grown_trans HG.out G4.out)⟩
      · have HV : Hid (y.may = true) := hv
        rw [hv] at HC
        clear hv
        go_wp2_with (go_at_call 72; refine HC.out.mono ?_; rintro e w4 ⟨rfl, hg4⟩; have G4 : Hid (wr.grownBy w4 none) := hg4; clear hg4)
        go_roundw
        case rel => exact ⟨k + 1, by go_num, by omega, HT.out HV.out, grown_trans HG.out G4.out⟩
        case measure => simp [intOf]; omega
    · obtain rfl : k = x.args.length := by omega
      have e0 := HK.out wr hg 0 _ rfl
      have e1 := HK.out wr hg 1 _ rfl
      have e3 := HK.out wr hg 3 _ rfl
      have HX2 : Hid (x.may = (Pg.okB x.op && Pg.okB x.t && decide ((x.s.size : Int) ≤ 256))) := by
        have := HA.out
        rw [List.take_length] at this
        show x.may = _
        rw [HX.out, this, Bool.true_and]
      clear hg
      cases h0 : Pg.okB x.op
      · have H0 : Hid (Pg.okB x.op = false) := h0
        clear h0
        go_wp2_with (go_at_call 49; refine (ok8 H0.out _).mono ?_; rintro e w4 ⟨rfl, hw4⟩; rw [hw4]; clear hw4 w4)
        go_ret
        exact ⟨by rw [HX2.out, H0.out]; rfl, grown_trans HG1.out HG.out⟩
      · have H0 : Hid (Pg.okB x.op = true) := h0
        clear h0
        cases h1 : Pg.okB x.t
        · have H1 : Hid (Pg.okB x.t = false) := h1
          clear h1
          go_wp2_with (go_at_call 49; (first | refine (ok8 H0.out _).mono ?_ | refine (ok8 H1.out _).mono ?_); rintro e w4 ⟨rfl, hw4⟩; rw [hw4]; clear hw4 w4)
          go_ret
          exact ⟨by rw [HX2.out, H0.out, H1.out]; rfl, grown_trans HG1.out HG.out⟩
        · have H1 : Hid (Pg.okB x.t = true) := h1
          clear h1
          by_cases h2 : (x.s.size : Int) ≤ 256
          · have d2 : decide ((x.s.size : Int) ≤ 256) = true := by simpa using h2
            go_wp2_with (go_at_call 49; (first | refine (ok8 H0.out _).mono ?_ | refine (ok8 H1.out _).mono ?_); rintro e w4 ⟨rfl, hw4⟩; rw [hw4]; clear hw4 w4)
            go_ret
            exact ⟨by rw [HX2.out, H0.out, H1.out, d2]; rfl, grown_trans HG1.out HG.out⟩
          · have d2 : decide ((x.s.size : Int) ≤ 256) = false := by simpa using h2
            go_wp2_with (go_at_call 49; (first | refine (ok8 H0.out _).mono ?_ | refine (ok8 H1.out _).mono ?_); rintro e w4 ⟨rfl, hw4⟩; rw [hw4]; clear hw4 w4)
            go_ret
            exact ⟨by rw [HX2.out, H0.out, H1.out, d2]; rfl, grown_trans HG1.out HG.out⟩
theorem mayExpr_any (x : Pg.Ex) : MayX x := Pg.Ex.ind (P := MayX) (fun op t n s args ih => mayExpr_one (.mk op t n s args) ih) x
namespace Pg
mutual
def St.may : St → Bool
  | .mk op _ args dst a b => mayEs args && (okB op && (dst.all okB && (maySs a && maySs b)))
def maySs : List St → Bool
  | [] => true
  | x :: l => x.may && maySs l
end
theorem maySs_all (l : List St) : maySs l = l.all St.may := by
  induction l with
  | nil => rfl
  | cons x l ih => simp only [maySs, ih, List.all_cons]
theorem St.may_eq (x : St) : x.may = (x.args.all Ex.may && (okB x.op && (x.dst.all okB && (x.a.all St.may && x.b.all St.may)))) := by
  obtain ⟨_, _, _, _, _, _⟩ := x
  rw [St.may, mayEs_all, maySs_all, maySs_all]
  rfl
end Pg
def MayS (l : List Pg.St) : Prop := ∀ (B : Nat → Prop) (w : World) (a : Option Addr) (c : Nat), StL B w a c l →
  Calls Try.prog 51 #[.slice a l.length c] w fun e w' => e = .returned (.bool (l.all Pg.St.may)) ∧ w.grownBy w' none
set_option maxRecDepth 100000 in
set_option maxHeartbeats 16000000 in
theorem mayStmts_list (l : List Pg.St) (ih : ∀ x, x ∈ l → MayS x.a ∧ MayS x.b) : MayS l := by
  intro B w a c h
  have hle := h.le
  have hmx := h.max
  unfold maxLen at hmx
  have HL : Hid (StL B w a c l) := h
  have HI : Hid (∀ x, x ∈ l → MayS x.a ∧ MayS x.b) := ih
  clear h ih
  go_enter Try.func51, Try.ntmps51
  go_wp2_with fail
  go_loopw [3] (fun ix wr => ∃ k : Nat, ix = .int .i64 k ∧ k ≤ l.length ∧ (l.take k).all Pg.St.may = true ∧ w.grownBy wr none) (fun ix _ => l.length - (intOf ix).toNat)
  case atStart => exact ⟨0, rfl, Nat.zero_le _, rfl, World.grownBy.refl _ _⟩
  case round =>
    obtain ⟨k, rfl, hk, ha, hg⟩ := hrel
    have HA : Hid ((l.take k).all Pg.St.may = true) := ha
    have HG : Hid (w.grownBy wr none) := hg
    clear ha
    by_cases hkn : k < l.length
    case neg =>
      obtain rfl : k = l.length := by omega
      clear hg
      go_wp2
      go_ret
      have := HA.out
      rw [List.take_length] at this
      exact ⟨by rw [this]; rfl, HG.out⟩
    have hkn' : (k : Int) < l.length := by omega
    obtain ⟨b, o, rfl, _, hx⟩ := (StL.grow HL.out hg).at hkn
    obtain ⟨a1, a2, a3, a4, k1, k2, k3, k4, he⟩ := hx.row
    have HT : Hid (l[k].may = true → (l.take (k + 1)).all Pg.St.may = true) := all_take_succ hkn HA.out
    have HF : Hid (l[k].may = false → l.all Pg.St.may = false) := all_false hkn
    have HX : Hid (l[k].may = (l[k].args.all Pg.Ex.may && (Pg.okB l[k].op && (l[k].dst.all Pg.okB && (l[k].a.all Pg.St.may && l[k].b.all Pg.St.may))))) := Pg.St.may_eq _
    have hle1 := he.args.le
    have hmx1 := he.args.max
    unfold maxLen at hmx1
    have HS : Hid (∀ W, wr.grownBy W none → StC B W b (o + k * 6) l[k] a1 a2 a3 a4 k1 k2 k3 k4) := fun W g => ⟨g.cell he.c0 (by simp), g.cell he.c1 (by simp), g.cell he.c2 (by simp), g.cell he.c3 (by simp), g.cell he.c4 (by simp), g.cell he.c5 (by simp), he.rg, ExL.grow he.args g, NumL.grow he.dst g, StL.grow he.a g, StL.grow he.b g⟩
    have HI2 : Hid (MayS l[k].a ∧ MayS l[k].b) := HI.out _ (List.getElem_mem hkn)
    clear hx he hg HA
    generalize l[k] = x at *
    obtain ⟨w1, hw1⟩ : ∃ z, z = wr := ⟨_, rfl⟩
    subst hw1
    go_wp2_with fail
    go_loopw [4] (fun jx wq => ∃ j : Nat, jx = .int .i64 j ∧ j ≤ x.args.length ∧ (x.args.take j).all Pg.Ex.may = true ∧ w1.grownBy wq none) (fun jx _ => x.args.length - (intOf jx).toNat)
    case atStart => exact ⟨0, rfl, Nat.zero_le _, rfl, World.grownBy.refl _ _⟩
    case round =>
      obtain ⟨j, rfl, hj, ha, hq⟩ := hrel
      have HQ : Hid (w1.grownBy wr none) := hq
      have HA : Hid ((x.args.take j).all Pg.Ex.may = true) := ha
      have hs := HS.out wr hq
      have c2 := hs.c2
      clear ha
      by_cases hjn : j < x.args.length
      case pos =>
        have hjn' : (j : Int) < x.args.length := by omega
        obtain ⟨b1, o1, rfl, _, hy⟩ := hs.args.at hjn
        obtain ⟨a5, k5, hf⟩ := hy.row
        have HC := mayExpr_any x.args[j] B wr a5 k5 hf.args
        have HT1 : Hid (x.args[j].may = true → (x.args.take (j + 1)).all Pg.Ex.may = true) := all_take_succ hjn HA.out
        have HF1 : Hid (x.args[j].may = false → x.args.all Pg.Ex.may = false) := all_false hjn
        have d0 := hf.c0
        have d1 := hf.c1
        have d2 := hf.c2
        have d3 := hf.c3
        have d4 := hf.c4
        clear hs hy hf hq
        generalize x.args[j] = y at *
        have HC : Hid (Calls Try.prog 72 #[.agg #[.int .i64 y.op, .int .i64 y.t, .int .i64 y.n, .string y.s, .slice a5 y.args.length k5]] wr fun e w' => e = .returned (.bool y.may) ∧ wr.grownBy w' none) := HC
        cases hv : y.may
        · have HV : Hid (y.may = false) := hv
          rw [hv] at HC
          clear hv
          go_wp2_with (go_at_call 72; refine HC.out.mono ?_; rintro e w4 ⟨rfl, hg4⟩; have G4 : Hid (wr.grownBy w4 none) := hg4; clear hg4)
          go_ret
          exact ⟨by rw [HF.out (by rw [HX.out, HF1.out HV.out]; rfl)]; rfl, grown_trans HG.out (grown_trans HQ.out G4.out)⟩
        · have HV : Hid (y.may = true) := hv
          rw [hv] at HC
          clear hv
          go_wp2_with (go_at_call 72; refine HC.out.mono ?_; rintro e w4 ⟨rfl, hg4⟩; have G4 : Hid (wr.grownBy w4 none) := hg4; clear hg4)
          go_roundw
          case rel => exact ⟨j + 1, by go_num, by omega, HT1.out HV.out, grown_trans HQ.out G4.out⟩
          case measure => simp [intOf]; omega
      case neg =>
        obtain rfl : j = x.args.length := by omega
        have hA := HA.out
        rw [List.take_length] at hA
        have HX2 : Hid (x.may = (Pg.okB x.op && (x.dst.all Pg.okB && (x.a.all Pg.St.may && x.b.all Pg.St.may)))) := by
          show x.may = _
          rw [HX.out, hA, Bool.true_and]
        have c0 := hs.c0
        have c3 := hs.c3
        have c4 := hs.c4
        have HD := oks8 hs.dst
        have HC1 := HI2.out.1 B wr a3 k3 hs.a
        have HC5 : Hid (∀ W, wr.grownBy W none → W.cell? ⟨b, o + k * 6 + 5, none⟩ = some (.slice a4 x.b.length k4)) := fun W g => g.cell hs.c5 (by simp)
        have HC2 := fun W (g : wr.grownBy W none) => HI2.out.2 B W a4 k4 (StL.grow hs.b g)
        clear hs hA hq
        have HD : Hid (Calls Try.prog 50 #[.slice a2 x.dst.length k2] wr fun e w' => e = .returned (.bool (x.dst.all Pg.okB)) ∧ w' = wr) := HD
        have HC1 : Hid (Calls Try.prog 51 #[.slice a3 x.a.length k3] wr fun e w' => e = .returned (.bool (x.a.all Pg.St.may)) ∧ wr.grownBy w' none) := HC1
        have HC2 : Hid (∀ W, wr.grownBy W none → Calls Try.prog 51 #[.slice a4 x.b.length k4] W fun e w' => e = .returned (.bool (x.b.all Pg.St.may)) ∧ W.grownBy w' none) := HC2
        cases hv0 : Pg.okB x.op
        · have H0 : Hid (Pg.okB x.op = false) := hv0
          clear hv0
          go_wp2_with (first
            | (go_at_call 49; refine (ok8 H0.out _).mono ?_; rintro e w4 ⟨rfl, hw4⟩; rw [hw4]; clear hw4 w4))
          go_ret
          exact ⟨by rw [HF.out (by rw [HX2.out, H0.out]; rfl)]; rfl, grown_trans HG.out (HQ.out)⟩
        · have H0 : Hid (Pg.okB x.op = true) := hv0
          clear hv0
          cases hv1 : x.dst.all Pg.okB
          · have H1 : Hid (x.dst.all Pg.okB = false) := hv1
            rw [hv1] at HD
            clear hv1
            go_wp2_with (first
              | (go_at_call 49; refine (ok8 H0.out _).mono ?_; rintro e w4 ⟨rfl, hw4⟩; rw [hw4]; clear hw4 w4)
              | (go_at_call 50; refine HD.out.mono ?_; rintro e w4 ⟨rfl, hw4⟩; rw [hw4]; clear hw4 w4))
            go_ret
            exact ⟨by rw [HF.out (by rw [HX2.out, H0.out, H1.out]; rfl)]; rfl, grown_trans HG.out (HQ.out)⟩
          · have H1 : Hid (x.dst.all Pg.okB = true) := hv1
            rw [hv1] at HD
            clear hv1
            cases hv2 : x.a.all Pg.St.may
            · have H2 : Hid (x.a.all Pg.St.may = false) := hv2
              rw [hv2] at HC1
              clear hv2
              go_wp2_with (first
                | (go_at_call 49; refine (ok8 H0.out _).mono ?_; rintro e w4 ⟨rfl, hw4⟩; rw [hw4]; clear hw4 w4)
                | (go_at_call 50; refine HD.out.mono ?_; rintro e w4 ⟨rfl, hw4⟩; rw [hw4]; clear hw4 w4)
                | (go_at_call 51; refine HC1.out.mono ?_; rintro e w5 ⟨rfl, hg5⟩; have G5 : Hid (wr.grownBy w5 none) := hg5; have c5 := HC5.out w5 hg5; clear hg5 HC1))
              go_ret
              exact ⟨by rw [HF.out (by rw [HX2.out, H0.out, H1.out, H2.out]; rfl)]; rfl, grown_trans HG.out (grown_trans HQ.out G5.out)⟩
            · have H2 : Hid (x.a.all Pg.St.may = true) := hv2
              rw [hv2] at HC1
              clear hv2
              cases hv3 : x.b.all Pg.St.may
              · have H3 : Hid (x.b.all Pg.St.may = false) := hv3
                rw [hv3] at HC2
                clear hv3
                go_wp2_with (first
                  | (go_at_call 49; refine (ok8 H0.out _).mono ?_; rintro e w4 ⟨rfl, hw4⟩; rw [hw4]; clear hw4 w4)
                  | (go_at_call 50; refine HD.out.mono ?_; rintro e w4 ⟨rfl, hw4⟩; rw [hw4]; clear hw4 w4)
                  | (go_at_call 51; refine HC1.out.mono ?_; rintro e w5 ⟨rfl, hg5⟩; have G5 : Hid (wr.grownBy w5 none) := hg5; have c5 := HC5.out w5 hg5; clear hg5 HC1)
                  | (go_at_call 51; refine (HC2.out _ G5.out).mono ?_; rintro e w6 ⟨rfl, hg6⟩; have G6 : Hid (wr.grownBy w6 none) := grown_trans G5.out hg6; clear hg6 HC2))
                go_ret
                exact ⟨by rw [HF.out (by rw [HX2.out, H0.out, H1.out, H2.out, H3.out]; rfl)]; rfl, grown_trans HG.out (grown_trans HQ.out G6.out)⟩
              · have H3 : Hid (x.b.all Pg.St.may = true) := hv3
                rw [hv3] at HC2
                clear hv3
                go_wp2_with (first
                  | (go_at_call 49; refine (ok8 H0.out _).mono ?_; rintro e w4 ⟨rfl, hw4⟩; rw [hw4]; clear hw4 w4)
                  | (go_at_call 50; refine HD.out.mono ?_; rintro e w4 ⟨rfl, hw4⟩; rw [hw4]; clear hw4 w4)
                  | (go_at_call 51; refine HC1.out.mono ?_; rintro e w5 ⟨rfl, hg5⟩; have G5 : Hid (wr.grownBy w5 none) := hg5; have c5 := HC5.out w5 hg5; clear hg5 HC1)
                  | (go_at_call 51; refine (HC2.out _ G5.out).mono ?_; rintro e w6 ⟨rfl, hg6⟩; have G6 : Hid (wr.grownBy w6 none) := grown_trans G5.out hg6; clear hg6 HC2))
                go_roundw
                case rel => exact ⟨k + 1, by go_num, by omega, HT.out (by rw [HX2.out, H0.out, H1.out, H2.out, H3.out]; rfl), grown_trans HG.out (grown_trans HQ.out G6.out)⟩
                case measure => simp [intOf]; omega
theorem mayStmts_any (l : List Pg.St) : MayS l := mayStmts_list l fun x _ => Pg.St.ind (P := fun x => MayS x.a ∧ MayS x.b) (fun _ _ _ _ a b ia ib => ⟨mayStmts_list a ia, mayStmts_list b ib⟩) x
namespace Pg
/-- groups of seven bits -/
def grp (x : Nat) : List Int := if h : x < 128 then [(x : Int)] else ((x % 128 + 128 : Nat) : Int) :: grp (x / 128)
termination_by x
decreasing_by omega
theorem grp_small {x : Nat} (h : x < 128) : grp x = [(x : Int)] := by rw [grp, dif_pos h]
theorem grp_big {x : Nat} (h : ¬ x < 128) : grp x = ((x % 128 + 128 : Nat) : Int) :: grp (x / 128) := by rw [grp, dif_neg h]
theorem grp_len : ∀ (k x : Nat), x < 128 ^ (k + 1) → (grp x).length ≤ k + 1
  | 0, x, h => by rw [grp_small (by omega)]; simp
  | k + 1, x, h => by
    by_cases h1 : x < 128
    · rw [grp_small h1]; simp
    · rw [grp_big h1, List.length_cons]
      have := grp_len k (x / 128) (by rw [Nat.div_lt_iff_lt_mul (by omega)]; rw [Nat.pow_succ] at h; exact h)
      omega
/-- the number that a signed number stands as -/
def zig (n : Int) : Nat := if n < 0 then (2 * (-(n + 1)) + 1).toNat else (2 * n).toNat
theorem zig_lt {n : Int} (h : R64 n) : zig n < 18446744073709551616 := by
  obtain ⟨h0, h1⟩ := h
  unfold zig
  split <;> omega
/-- what is laid down, counted and looked at -/
structure Dl where
  may : Bool
  nd : Nat
  dp : Nat
  en : List Int
def Dl.nil : Dl := ⟨true, 0, 0, []⟩
def Dl.app (a b : Dl) : Dl := ⟨a.may && b.may, a.nd + b.nd, max a.dp b.dp, a.en ++ b.en⟩
def Dl.node (d : Dl) : Dl := ⟨d.may, d.nd + 1, d.dp + 1, d.en⟩
theorem Dl.nil_app (a : Dl) : Dl.nil.app a = a := by obtain ⟨m, n, d, e⟩ := a; simp [Dl.app, Dl.nil]
theorem Dl.app_nil (a : Dl) : a.app Dl.nil = a := by obtain ⟨m, n, d, e⟩ := a; simp [Dl.app, Dl.nil]
theorem Dl.app_assoc (a b c : Dl) : (a.app b).app c = a.app (b.app c) := by simp [Dl.app, Bool.and_assoc, Nat.add_assoc, Nat.max_assoc]
def dCnt (n : Int) : Dl := ⟨okB n, 0, 0, if okB n then grp n.toNat else []⟩
def dNum (n : Int) : Dl := ⟨true, 0, 0, grp (zig n)⟩
/-- a text's bytes -/
def txt (s : ByteArray) : List Int := s.data.toList.map (fun b => (b.toNat : Int))
theorem txt_len (s : ByteArray) : (txt s).length = s.size := by simp [txt]
def dTxt (s : ByteArray) : Dl := if s.size ≤ 256 then ⟨true, 0, 0, grp s.size ++ txt s⟩ else ⟨false, 0, 0, []⟩
def dNums : List Int → Dl
  | [] => .nil
  | n :: l => (dCnt n).app (dNums l)
def dNumL (l : List Int) : Dl := (dCnt l.length).app (dNums l)
mutual
def Ex.dl : Ex → Dl
  | .mk op t n s args => ((dCnt op).app ((dCnt t).app ((dNum n).app ((dTxt s).app ((dCnt args.length).app (dEs args)))))).node
def dEs : List Ex → Dl
  | [] => .nil
  | x :: l => x.dl.app (dEs l)
end
def dExL (l : List Ex) : Dl := (dCnt l.length).app (dEs l)
mutual
def St.dl : St → Dl
  | .mk op n args dst a b => ((dCnt op).app ((dNum n).app ((dExL args).app ((dNumL dst).app (((dCnt a.length).app (dSs a)).app ((dCnt b.length).app (dSs b))))))).node
def dSs : List St → Dl
  | [] => .nil
  | x :: l => x.dl.app (dSs l)
end
def dStL (l : List St) : Dl := (dCnt l.length).app (dSs l)
theorem Ex.dl_eq (x : Ex) : x.dl = ((dCnt x.op).app ((dCnt x.t).app ((dNum x.n).app ((dTxt x.s).app (dExL x.args))))).node := by
  obtain ⟨_, _, _, _, _⟩ := x
  rw [Ex.dl]
  rfl
theorem St.dl_eq (x : St) : x.dl = ((dCnt x.op).app ((dNum x.n).app ((dExL x.args).app ((dNumL x.dst).app ((dStL x.a).app (dStL x.b)))))).node := by
  obtain ⟨_, _, _, _, _, _⟩ := x
  rw [St.dl]
  rfl
def Tp.dl (x : Tp) : Dl := (dCnt x.kind).app ((dCnt x.elem).app ((dCnt x.n).app (dNumL x.fields)))
def Fn.dl (x : Fn) : Dl := (dCnt x.params).app ((dNumL x.locals).app ((dNumL x.results).app (dStL x.body)))
def dTs : List Tp → Dl
  | [] => .nil
  | x :: l => x.dl.app (dTs l)
def dFs : List Fn → Dl
  | [] => .nil
  | x :: l => x.dl.app (dFs l)
def Pr.dl (p : Pr) : Dl := ((dCnt p.types.length).app (dTs p.types)).app ((dCnt p.funcs.length).app (dFs p.funcs))
/-- a row of deltas, one behind the other -/
def dCat {α : Type} (f : α → Dl) : List α → Dl
  | [] => .nil
  | x :: l => (f x).app (dCat f l)
theorem dCat_app {α : Type} (f : α → Dl) (l m : List α) : dCat f (l ++ m) = (dCat f l).app (dCat f m) := by
  induction l with
  | nil => rw [List.nil_append, dCat, Dl.nil_app]
  | cons x l ih => rw [List.cons_append, dCat, ih, dCat, Dl.app_assoc]
theorem dCat_succ {α : Type} (f : α → Dl) {l : List α} {k : Nat} (h : k < l.length) : dCat f (l.take (k + 1)) = (dCat f (l.take k)).app (f l[k]) := by
  rw [List.take_succ_eq_append_getElem h, dCat_app]
  simp [dCat, Dl.app_nil]
theorem dEs_cat (l : List Ex) : dEs l = dCat Ex.dl l := by
  induction l with
  | nil => rfl
  | cons x l ih => rw [dEs, ih, dCat]
theorem dSs_cat (l : List St) : dSs l = dCat St.dl l := by
  induction l with
  | nil => rfl
  | cons x l ih => rw [dSs, ih, dCat]
theorem dNums_cat (l : List Int) : dNums l = dCat dCnt l := by
  induction l with
  | nil => rfl
  | cons x l ih => rw [dNums, ih, dCat]
theorem dTs_cat (l : List Tp) : dTs l = dCat Tp.dl l := by
  induction l with
  | nil => rfl
  | cons x l ih => rw [dTs, ih, dCat]
theorem dFs_cat (l : List Fn) : dFs l = dCat Fn.dl l := by
  induction l with
  | nil => rfl
  | cons x l ih => rw [dFs, ih, dCat]
/-- a part of it is no more than the whole -/
theorem dCat_le {α : Type} (f : α → Dl) (l : List α) (k : Nat) : (dCat f (l.take k)).nd ≤ (dCat f l).nd ∧ (dCat f (l.take k)).dp ≤ (dCat f l).dp ∧ (dCat f (l.take k)).en.length ≤ (dCat f l).en.length ∧ ((dCat f l).may = true → (dCat f (l.take k)).may = true) := by
  have := dCat_app f (l.take k) (l.drop k)
  rw [List.take_append_drop] at this
  rw [this]
  simp only [Dl.app, List.length_append]
  refine ⟨by omega, by omega, by omega, fun h => ?_⟩
  simp only [Bool.and_eq_true] at h
  exact h.1
end Pg
end Go.Proofs.Ytljdjkiejppenaa
