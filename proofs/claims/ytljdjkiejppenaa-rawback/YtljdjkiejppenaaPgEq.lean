/- Equal programs are told to be equal. -/
import Derived.Test.YtljdjkiejppenaaG5
import Derived.Test.YtljdjkiejppenaaG3
namespace Go.Proofs.Ytljdjkiejppenaa
open Go.RowKit
set_option linter.unusedVariables false

set_option maxRecDepth 100000 in
set_option maxHeartbeats 8000000 in
theorem eqNumL (l : List Int) : ∀ (B B' : Nat → Prop) (w : World) (a a' : Option Addr) (c c' : Nat), NumL B w a c l → NumL B' w a' c' l → Calls Try.prog 75 #[.slice a l.length c, .slice a' l.length c'] w fun e w' => e = .returned (.bool true) ∧ w.grownBy w' none := by
  intro B B' w a a' c c' h h'
  have hle := h.le
  have hmx := h.max
  have hle' := h'.le
  have hmx' := h'.max
  unfold maxLen at hmx hmx'
  have H1 : Hid (NumL B w a c l) := h
  have H2 : Hid (NumL B' w a' c' l) := h'
  clear h h'
  go_enter Try.func75, Try.ntmps75
  go_wp2_with fail
  go_loopw [5] (fun ix wr => ∃ k : Nat, ix = .int .i64 k ∧ k ≤ l.length ∧ w.grownBy wr none) (fun ix _ => l.length - (intOf ix).toNat)
  case atStart => exact ⟨0, rfl, Nat.zero_le _, World.grownBy.refl _ _⟩
  case round =>
    obtain ⟨k, rfl, hk, hg⟩ := hrel
    have HG : Hid (w.grownBy wr none) := hg
    by_cases hkn : k < l.length
    · have hkn' : (k : Int) < l.length := by omega
      obtain ⟨b1, o1, rfl, _, c1⟩ := (NumL.grow H1.out hg).at hkn
      obtain ⟨b2, o2, rfl, _, c2⟩ := (NumL.grow H2.out hg).at hkn
      have c1 : wr.cell? ⟨b1, o1 + k, none⟩ = some (.int .i64 l[k]) := by rw [Nat.mul_one] at c1; exact c1
      have c2 : wr.cell? ⟨b2, o2 + k, none⟩ = some (.int .i64 l[k]) := by rw [Nat.mul_one] at c2; exact c2
      clear hg
      generalize l[k] = y at *
      go_wp2_with fail
      refine region_src 8 (psiL [eqV (.slice (some ⟨b1, o1, none⟩) l.length c), eqV (.int .i64 (k : Int)), eqV (.pointer (some ⟨b1, o1 + k, none⟩)), eqV (.int .i64 y), eqV (.slice (some ⟨b2, o2, none⟩) l.length c'), eqV (.int .i64 (k : Int)), eqV (.pointer (some ⟨b2, o2 + k, none⟩)), eqV (.int .i64 y)]) (by kernel_rfl) (by kernel_rfl) (by kernel_rfl) (by kernel_rfl) (psiL_hst (by repeat (first | exact stab_nil | refine stab_cons ?_ ?_ | exact stab_eq _))) ?_ ?_
      · simp only [List.take_succ_cons, List.take_zero]
        refine ⟨?_, ?_, ?_, ?_, ?_, ?_, ?_, ?_, trivial⟩
        · intro VV W0 AA g hV hs hz
          have e00 := hz 0 (.slice (some ⟨b1, o1, none⟩) l.length c) (by kernel_rfl) rfl
          clear hV hs hz
          refine outO_val (v := .slice (some ⟨b1, o1, none⟩) l.length c) (w' := W0) ?_ (World.grownBy.refl _ _) rfl
          simp [go_sem, e00]
        · intro VV W0 AA g hV hs hz
          have e05 := hz 5 (.int .i64 (k : Int)) (by kernel_rfl) rfl
          clear hV hs hz
          refine outO_val (v := .int .i64 (k : Int)) (w' := W0) ?_ (World.grownBy.refl _ _) rfl
          simp [go_sem, e05]
        · intro VV W0 AA g hV hs hz
          have q0 : VV 0 = .slice (some ⟨b1, o1, none⟩) l.length c := hV 0 (by kernel_rfl)
          have e0 := hs 17 0 (by kernel_rfl) (by kernel_rfl)
          have q1 : VV 1 = .int .i64 (k : Int) := hV 1 (by kernel_rfl)
          have e1 := hs 18 1 (by kernel_rfl) (by kernel_rfl)
          clear hV hs hz
          refine outO_val (v := .pointer (some ⟨b1, o1 + k, none⟩)) (w' := W0) ?_ (World.grownBy.refl _ _) rfl
          simp [go_sem, q0, e0, q1, e1, hkn']
        · intro VV W0 AA g hV hs hz
          have gD : wr.grownBy W0 none := grown_trans (grown_drew (World.grownBy.refl _ none)) g
          have q2 : VV 2 = .pointer (some ⟨b1, o1 + k, none⟩) := hV 2 (by kernel_rfl)
          have e2 := hs 19 2 (by kernel_rfl) (by kernel_rfl)
          have x0 := gD.cell c1 (by simp)
          clear hV hs hz
          refine outO_val (v := .int .i64 y) (w' := W0) ?_ (World.grownBy.refl _ _) rfl
          simp [go_sem, q2, e2, x0]
        · intro VV W0 AA g hV hs hz
          have e01 := hz 1 (.slice (some ⟨b2, o2, none⟩) l.length c') (by kernel_rfl) rfl
          clear hV hs hz
          refine outO_val (v := .slice (some ⟨b2, o2, none⟩) l.length c') (w' := W0) ?_ (World.grownBy.refl _ _) rfl
          simp [go_sem, e01]
        · intro VV W0 AA g hV hs hz
          have e05 := hz 5 (.int .i64 (k : Int)) (by kernel_rfl) rfl
          clear hV hs hz
          refine outO_val (v := .int .i64 (k : Int)) (w' := W0) ?_ (World.grownBy.refl _ _) rfl
          simp [go_sem, e05]
        · intro VV W0 AA g hV hs hz
          have q4 : VV 4 = .slice (some ⟨b2, o2, none⟩) l.length c' := hV 4 (by kernel_rfl)
          have e4 := hs 21 4 (by kernel_rfl) (by kernel_rfl)
          have q5 : VV 5 = .int .i64 (k : Int) := hV 5 (by kernel_rfl)
          have e5 := hs 22 5 (by kernel_rfl) (by kernel_rfl)
          clear hV hs hz
          refine outO_val (v := .pointer (some ⟨b2, o2 + k, none⟩)) (w' := W0) ?_ (World.grownBy.refl _ _) rfl
          simp [go_sem, q4, e4, q5, e5, hkn']
        · intro VV W0 AA g hV hs hz
          have gD : wr.grownBy W0 none := grown_trans (grown_drew (World.grownBy.refl _ none)) g
          have q6 : VV 6 = .pointer (some ⟨b2, o2 + k, none⟩) := hV 6 (by kernel_rfl)
          have e6 := hs 23 6 (by kernel_rfl) (by kernel_rfl)
          have x0 := gD.cell c2 (by simp)
          clear hV hs hz
          refine outO_val (v := .int .i64 y) (w' := W0) ?_ (World.grownBy.refl _ _) rfl
          simp [go_sem, q6, e6, x0]
      · intro VV W0 g hV
        have gD : wr.grownBy W0 none := grown_trans (grown_drew (World.grownBy.refl _ none)) g
        have h0 : VV 0 = .slice (some ⟨b1, o1, none⟩) l.length c := hV 0 (by decide)
        have h1 : VV 1 = .int .i64 (k : Int) := hV 1 (by decide)
        have h2 : VV 2 = .pointer (some ⟨b1, o1 + k, none⟩) := hV 2 (by decide)
        have h3 : VV 3 = .int .i64 y := hV 3 (by decide)
        have h4 : VV 4 = .slice (some ⟨b2, o2, none⟩) l.length c' := hV 4 (by decide)
        have h5 : VV 5 = .int .i64 (k : Int) := hV 5 (by decide)
        have h6 : VV 6 = .pointer (some ⟨b2, o2 + k, none⟩) := hV 6 (by decide)
        have h7 : VV 7 = .int .i64 y := hV 7 (by decide)
        simp [frV, dstOf, Act.put, h0, h1, h2, h3, h4, h5, h6, h7]
        clear h0 h1 h2 h3 h4 h5 h6 h7 hV g
        have GR : Hid (wr.grownBy W0 none) := gD
        clear gD
        go_wp2
        go_roundw
        case rel => exact ⟨k + 1, by go_num, by omega, grown_trans HG.out GR.out⟩
        case measure => simp [intOf]; omega
    · obtain rfl : k = l.length := by omega
      clear hg
      go_wp2
      go_ret
      exact ⟨rfl, HG.out⟩
def EqE (l : List Pg.Ex) : Prop := ∀ (B B' : Nat → Prop) (w : World) (a a' : Option Addr) (c c' : Nat), ExL B w a c l → ExL B' w a' c' l → Calls Try.prog 99 #[.slice a l.length c, .slice a' l.length c'] w fun e w' => e = .returned (.bool true) ∧ w.grownBy w' none
set_option maxRecDepth 100000 in
set_option maxHeartbeats 8000000 in
theorem eqExpr_true {B B' : Nat → Prop} {w : World} {x : Pg.Ex} {a1 a1' : Option Addr} {k1 k1' : Nat} (ih : EqE x.args) (h1 : ExL B w a1 k1 x.args) (h1' : ExL B' w a1' k1' x.args) :
    Calls Try.prog 107 #[.agg #[.int .i64 x.op, .int .i64 x.t, .int .i64 x.n, .string x.s, .slice a1 x.args.length k1], .agg #[.int .i64 x.op, .int .i64 x.t, .int .i64 x.n, .string x.s, .slice a1' x.args.length k1']] w fun e w' => e = .returned (.bool true) ∧ w.grownBy w' none := by
  obtain ⟨W2, hW2⟩ : ∃ W2, W2 = (w.alloc (.cells #[.int .i64 x.op, .int .i64 x.t, .int .i64 x.n, .string x.s, .slice a1 x.args.length k1] 94)).alloc (.cells #[.int .i64 x.op, .int .i64 x.t, .int .i64 x.n, .string x.s, .slice a1' x.args.length k1'] 94) := ⟨_, rfl⟩
  have g2 : w.grownBy W2 none := by rw [hW2]; exact ga (World.grownBy_alloc _ _ _) _
  have K1 : ∀ j v, (#[.int .i64 x.op, .int .i64 x.t, .int .i64 x.n, .string x.s, .slice a1 x.args.length k1] : Array Value)[j]? = some v → W2.cell? ⟨w.heap.size, j, none⟩ = some v := fun j v hv => by rw [hW2]; exact (Ch.of (l := []) (World.grownBy_alloc _ _ _)).cell ((cells_new _ _ rfl _).trans hv) (by simp)
  have K2 : ∀ j v, (#[.int .i64 x.op, .int .i64 x.t, .int .i64 x.n, .string x.s, .slice a1' x.args.length k1'] : Array Value)[j]? = some v → W2.cell? ⟨w.heap.size + 1, j, none⟩ = some v := fun j v hv => by rw [hW2, ← hv]; exact cells_new _ _ (by simp) _
  have HC1 : Hid (∀ W, W2.grownBy W none → Calls Try.prog 99 #[.slice a1 x.args.length k1, .slice a1' x.args.length k1'] W fun e w' => e = .returned (.bool true) ∧ W.grownBy w' none) := fun W g => ih _ _ _ _ _ _ _ (ExL.grow h1 (grown_trans g2 g)) (ExL.grow h1' (grown_trans g2 g))
  have HW2 : Hid (W2 = (w.alloc (.cells #[.int .i64 x.op, .int .i64 x.t, .int .i64 x.n, .string x.s, .slice a1 x.args.length k1] 94)).alloc (.cells #[.int .i64 x.op, .int .i64 x.t, .int .i64 x.n, .string x.s, .slice a1' x.args.length k1'] 94)) := hW2
  have HG : Hid (w.grownBy W2 none) := g2
  clear h1 h1' g2 hW2 K1 K2
  go_enter Try.func107, Try.ntmps107
  go_wp2_with (first
    | (go_at_call 99; rw [← HW2.out]; refine (HC1.out _ (World.grownBy.refl _ _)).mono ?_; rintro e w1 ⟨rfl, g⟩; have HG1 : Hid (W2.grownBy w1 none) := g; clear g HC1))
  go_ret
  exact ⟨rfl, grown_trans HG.out HG1.out⟩
set_option maxRecDepth 100000 in
set_option maxHeartbeats 8000000 in
theorem eqExprs_list (l : List Pg.Ex) (ih : ∀ x, x ∈ l → EqE x.args) : ∀ (B B' : Nat → Prop) (w : World) (a a' : Option Addr) (c c' : Nat), ExL B w a c l → ExL B' w a' c' l → Calls Try.prog 99 #[.slice a l.length c, .slice a' l.length c'] w fun e w' => e = .returned (.bool true) ∧ w.grownBy w' none := by
  intro B B' w a a' c c' h h'
  have hle := h.le
  have hmx := h.max
  have hle' := h'.le
  have hmx' := h'.max
  unfold maxLen at hmx hmx'
  have H1 : Hid (ExL B w a c l) := h
  have H2 : Hid (ExL B' w a' c' l) := h'
  clear h h'
  have HI : Hid (∀ x, x ∈ l → EqE x.args) := ih
  clear ih
  go_enter Try.func99, Try.ntmps99
  go_wp2_with fail
  go_loopw [5] (fun ix wr => ∃ k : Nat, ix = .int .i64 k ∧ k ≤ l.length ∧ w.grownBy wr none) (fun ix _ => l.length - (intOf ix).toNat)
  case atStart => exact ⟨0, rfl, Nat.zero_le _, World.grownBy.refl _ _⟩
  case round =>
    obtain ⟨k, rfl, hk, hg⟩ := hrel
    have HG : Hid (w.grownBy wr none) := hg
    by_cases hkn : k < l.length
    · have hkn' : (k : Int) < l.length := by omega
      obtain ⟨b1, o1, rfl, _, p1⟩ := (ExL.grow H1.out hg).at hkn
      obtain ⟨b2, o2, rfl, _, p2⟩ := (ExL.grow H2.out hg).at hkn
      obtain ⟨a1, k1, p1⟩ := p1.row
      obtain ⟨a1', k1', p2⟩ := p2.row
      have HC := fun W (g : wr.grownBy W none) => eqExpr_true (HI.out l[k] (List.getElem_mem hkn)) (ExL.grow p1.args g) (ExL.grow p2.args g)
      have x0 := p1.c0
      have y0 := p2.c0
      have x1 := p1.c1
      have y1 := p2.c1
      have x2 := p1.c2
      have y2 := p2.c2
      have x3 := p1.c3
      have y3 := p2.c3
      have x4 := p1.c4
      have y4 := p2.c4
      clear hg p1 p2
      generalize l[k] = x at *
      have HC : Hid (∀ W, wr.grownBy W none → Calls Try.prog 107 #[.agg #[.int .i64 x.op, .int .i64 x.t, .int .i64 x.n, .string x.s, .slice a1 x.args.length k1], .agg #[.int .i64 x.op, .int .i64 x.t, .int .i64 x.n, .string x.s, .slice a1' x.args.length k1']] W fun e w' => e = .returned (.bool true) ∧ W.grownBy w' none) := HC
      go_wp2_with fail
      refine region_src 9 (psiL [eqV (.slice (some ⟨b1, o1, none⟩) l.length c), eqV (.int .i64 (k : Int)), eqV (.pointer (some ⟨b1, o1 + k * 5, none⟩)), eqV (.agg #[.int .i64 (x.op), .int .i64 (x.t), .int .i64 (x.n), .string x.s, .slice a1 x.args.length k1]), eqV (.slice (some ⟨b2, o2, none⟩) l.length c'), eqV (.int .i64 (k : Int)), eqV (.pointer (some ⟨b2, o2 + k * 5, none⟩)), eqV (.agg #[.int .i64 (x.op), .int .i64 (x.t), .int .i64 (x.n), .string x.s, .slice a1' x.args.length k1']), eqV (.bool true)]) (by kernel_rfl) (by kernel_rfl) (by kernel_rfl) (by kernel_rfl) (psiL_hst (by repeat (first | exact stab_nil | refine stab_cons ?_ ?_ | exact stab_eq _))) ?_ ?_
      · simp only [List.take_succ_cons, List.take_zero]
        refine ⟨?_, ?_, ?_, ?_, ?_, ?_, ?_, ?_, ?_, trivial⟩
        · intro VV W0 AA g hV hs hz
          have e00 := hz 0 (.slice (some ⟨b1, o1, none⟩) l.length c) (by kernel_rfl) rfl
          clear hV hs hz
          refine outO_val (v := .slice (some ⟨b1, o1, none⟩) l.length c) (w' := W0) ?_ (World.grownBy.refl _ _) rfl
          simp [go_sem, e00]
        · intro VV W0 AA g hV hs hz
          have e05 := hz 5 (.int .i64 (k : Int)) (by kernel_rfl) rfl
          clear hV hs hz
          refine outO_val (v := .int .i64 (k : Int)) (w' := W0) ?_ (World.grownBy.refl _ _) rfl
          simp [go_sem, e05]
        · intro VV W0 AA g hV hs hz
          have q0 : VV 0 = .slice (some ⟨b1, o1, none⟩) l.length c := hV 0 (by kernel_rfl)
          have e0 := hs 17 0 (by kernel_rfl) (by kernel_rfl)
          have q1 : VV 1 = .int .i64 (k : Int) := hV 1 (by kernel_rfl)
          have e1 := hs 18 1 (by kernel_rfl) (by kernel_rfl)
          clear hV hs hz
          refine outO_val (v := .pointer (some ⟨b1, o1 + k * 5, none⟩)) (w' := W0) ?_ (World.grownBy.refl _ _) rfl
          simp [go_sem, q0, e0, q1, e1, hkn']
        · intro VV W0 AA g hV hs hz
          have gD : wr.grownBy W0 none := grown_trans (grown_drew (World.grownBy.refl _ none)) g
          have q2 : VV 2 = .pointer (some ⟨b1, o1 + k * 5, none⟩) := hV 2 (by kernel_rfl)
          have e2 := hs 19 2 (by kernel_rfl) (by kernel_rfl)
          have x0 := gD.cell x0 (by simp)
          have x1 := gD.cell x1 (by simp)
          have x2 := gD.cell x2 (by simp)
          have x3 := gD.cell x3 (by simp)
          have x4 := gD.cell x4 (by simp)
          clear hV hs hz
          refine outO_val (v := .agg #[.int .i64 (x.op), .int .i64 (x.t), .int .i64 (x.n), .string x.s, .slice a1 x.args.length k1]) (w' := W0) ?_ (World.grownBy.refl _ _) rfl
          simp [go_sem, q2, e2, x0, x1, x2, x3, x4]
        · intro VV W0 AA g hV hs hz
          have e01 := hz 1 (.slice (some ⟨b2, o2, none⟩) l.length c') (by kernel_rfl) rfl
          clear hV hs hz
          refine outO_val (v := .slice (some ⟨b2, o2, none⟩) l.length c') (w' := W0) ?_ (World.grownBy.refl _ _) rfl
          simp [go_sem, e01]
        · intro VV W0 AA g hV hs hz
          have e05 := hz 5 (.int .i64 (k : Int)) (by kernel_rfl) rfl
          clear hV hs hz
          refine outO_val (v := .int .i64 (k : Int)) (w' := W0) ?_ (World.grownBy.refl _ _) rfl
          simp [go_sem, e05]
        · intro VV W0 AA g hV hs hz
          have q4 : VV 4 = .slice (some ⟨b2, o2, none⟩) l.length c' := hV 4 (by kernel_rfl)
          have e4 := hs 21 4 (by kernel_rfl) (by kernel_rfl)
          have q5 : VV 5 = .int .i64 (k : Int) := hV 5 (by kernel_rfl)
          have e5 := hs 22 5 (by kernel_rfl) (by kernel_rfl)
          clear hV hs hz
          refine outO_val (v := .pointer (some ⟨b2, o2 + k * 5, none⟩)) (w' := W0) ?_ (World.grownBy.refl _ _) rfl
          simp [go_sem, q4, e4, q5, e5, hkn']
        · intro VV W0 AA g hV hs hz
          have gD : wr.grownBy W0 none := grown_trans (grown_drew (World.grownBy.refl _ none)) g
          have q6 : VV 6 = .pointer (some ⟨b2, o2 + k * 5, none⟩) := hV 6 (by kernel_rfl)
          have e6 := hs 23 6 (by kernel_rfl) (by kernel_rfl)
          have x0 := gD.cell y0 (by simp)
          have x1 := gD.cell y1 (by simp)
          have x2 := gD.cell y2 (by simp)
          have x3 := gD.cell y3 (by simp)
          have x4 := gD.cell y4 (by simp)
          clear hV hs hz
          refine outO_val (v := .agg #[.int .i64 (x.op), .int .i64 (x.t), .int .i64 (x.n), .string x.s, .slice a1' x.args.length k1']) (w' := W0) ?_ (World.grownBy.refl _ _) rfl
          simp [go_sem, q6, e6, x0, x1, x2, x3, x4]
        · intro VV W0 AA g hV hs hz
          have gD : wr.grownBy W0 none := grown_trans (grown_drew (World.grownBy.refl _ none)) g
          have q3 : VV 3 = .agg #[.int .i64 (x.op), .int .i64 (x.t), .int .i64 (x.n), .string x.s, .slice a1 x.args.length k1] := hV 3 (by kernel_rfl)
          have e3 := hs 20 3 (by kernel_rfl) (by kernel_rfl)
          have q7 : VV 7 = .agg #[.int .i64 (x.op), .int .i64 (x.t), .int .i64 (x.n), .string x.s, .slice a1' x.args.length k1'] := hV 7 (by kernel_rfl)
          have e7 := hs 24 7 (by kernel_rfl) (by kernel_rfl)
          clear hV hs hz
          refine outO_call (f := 107) ?_ ((HC.out W0 gD).mono fun e w2 ⟨he, hg⟩ => ⟨_, he, hg, rfl⟩)
          simp [go_sem, q3, e3, q7, e7]
      · intro VV W0 g hV
        have gD : wr.grownBy W0 none := grown_trans (grown_drew (World.grownBy.refl _ none)) g
        have h0 : VV 0 = .slice (some ⟨b1, o1, none⟩) l.length c := hV 0 (by decide)
        have h1 : VV 1 = .int .i64 (k : Int) := hV 1 (by decide)
        have h2 : VV 2 = .pointer (some ⟨b1, o1 + k * 5, none⟩) := hV 2 (by decide)
        have h3 : VV 3 = .agg #[.int .i64 (x.op), .int .i64 (x.t), .int .i64 (x.n), .string x.s, .slice a1 x.args.length k1] := hV 3 (by decide)
        have h4 : VV 4 = .slice (some ⟨b2, o2, none⟩) l.length c' := hV 4 (by decide)
        have h5 : VV 5 = .int .i64 (k : Int) := hV 5 (by decide)
        have h6 : VV 6 = .pointer (some ⟨b2, o2 + k * 5, none⟩) := hV 6 (by decide)
        have h7 : VV 7 = .agg #[.int .i64 (x.op), .int .i64 (x.t), .int .i64 (x.n), .string x.s, .slice a1' x.args.length k1'] := hV 7 (by decide)
        have h8 : VV 8 = .bool true := hV 8 (by decide)
        simp [frV, dstOf, Act.put, h0, h1, h2, h3, h4, h5, h6, h7, h8]
        clear h0 h1 h2 h3 h4 h5 h6 h7 h8 hV g
        have GR : Hid (wr.grownBy W0 none) := gD
        clear gD
        go_wp2
        go_roundw
        case rel => exact ⟨k + 1, by go_num, by omega, grown_trans HG.out GR.out⟩
        case measure => simp [intOf]; omega
    · obtain rfl : k = l.length := by omega
      clear hg
      go_wp2
      go_ret
      exact ⟨rfl, HG.out⟩
theorem eqExprs_any (l : List Pg.Ex) : EqE l := eqExprs_list l fun x _ => Pg.Ex.ind (P := fun x => EqE x.args) (fun _ _ _ _ args ih => eqExprs_list args ih) x
def EqS (l : List Pg.St) : Prop := ∀ (B B' : Nat → Prop) (w : World) (a a' : Option Addr) (c c' : Nat), StL B w a c l → StL B' w a' c' l → Calls Try.prog 76 #[.slice a l.length c, .slice a' l.length c'] w fun e w' => e = .returned (.bool true) ∧ w.grownBy w' none
set_option maxRecDepth 100000 in
set_option maxHeartbeats 8000000 in
theorem eqStmt_true {B B' : Nat → Prop} {w : World} {x : Pg.St} {a1 a1' a2 a2' a3 a3' a4 a4' : Option Addr} {k1 k1' k2 k2' k3 k3' k4 k4' : Nat} (ih1 : EqS x.a) (ih2 : EqS x.b) (h1 : ExL B w a1 k1 x.args) (h1' : ExL B' w a1' k1' x.args) (h2 : NumL B w a2 k2 x.dst) (h2' : NumL B' w a2' k2' x.dst) (h3 : StL B w a3 k3 x.a) (h3' : StL B' w a3' k3' x.a) (h4 : StL B w a4 k4 x.b) (h4' : StL B' w a4' k4' x.b) :
    Calls Try.prog 90 #[.agg #[.int .i64 x.op, .int .i64 x.n, .slice a1 x.args.length k1, .slice a2 x.dst.length k2, .slice a3 x.a.length k3, .slice a4 x.b.length k4], .agg #[.int .i64 x.op, .int .i64 x.n, .slice a1' x.args.length k1', .slice a2' x.dst.length k2', .slice a3' x.a.length k3', .slice a4' x.b.length k4']] w fun e w' => e = .returned (.bool true) ∧ w.grownBy w' none := by
  obtain ⟨W2, hW2⟩ : ∃ W2, W2 = (w.alloc (.cells #[.int .i64 x.op, .int .i64 x.n, .slice a1 x.args.length k1, .slice a2 x.dst.length k2, .slice a3 x.a.length k3, .slice a4 x.b.length k4] 81)).alloc (.cells #[.int .i64 x.op, .int .i64 x.n, .slice a1' x.args.length k1', .slice a2' x.dst.length k2', .slice a3' x.a.length k3', .slice a4' x.b.length k4'] 81) := ⟨_, rfl⟩
  have g2 : w.grownBy W2 none := by rw [hW2]; exact ga (World.grownBy_alloc _ _ _) _
  have K1 : ∀ j v, (#[.int .i64 x.op, .int .i64 x.n, .slice a1 x.args.length k1, .slice a2 x.dst.length k2, .slice a3 x.a.length k3, .slice a4 x.b.length k4] : Array Value)[j]? = some v → W2.cell? ⟨w.heap.size, j, none⟩ = some v := fun j v hv => by rw [hW2]; exact (Ch.of (l := []) (World.grownBy_alloc _ _ _)).cell ((cells_new _ _ rfl _).trans hv) (by simp)
  have K2 : ∀ j v, (#[.int .i64 x.op, .int .i64 x.n, .slice a1' x.args.length k1', .slice a2' x.dst.length k2', .slice a3' x.a.length k3', .slice a4' x.b.length k4'] : Array Value)[j]? = some v → W2.cell? ⟨w.heap.size + 1, j, none⟩ = some v := fun j v hv => by rw [hW2, ← hv]; exact cells_new _ _ (by simp) _
  have HC1 : Hid (∀ W, W2.grownBy W none → Calls Try.prog 99 #[.slice a1 x.args.length k1, .slice a1' x.args.length k1'] W fun e w' => e = .returned (.bool true) ∧ W.grownBy w' none) := fun W g => eqExprs_any _ _ _ _ _ _ _ _ (ExL.grow h1 (grown_trans g2 g)) (ExL.grow h1' (grown_trans g2 g))
  have HC2 : Hid (∀ W, W2.grownBy W none → Calls Try.prog 75 #[.slice a2 x.dst.length k2, .slice a2' x.dst.length k2'] W fun e w' => e = .returned (.bool true) ∧ W.grownBy w' none) := fun W g => eqNumL _ _ _ _ _ _ _ _ (NumL.grow h2 (grown_trans g2 g)) (NumL.grow h2' (grown_trans g2 g))
  have HC3 : Hid (∀ W, W2.grownBy W none → Calls Try.prog 76 #[.slice a3 x.a.length k3, .slice a3' x.a.length k3'] W fun e w' => e = .returned (.bool true) ∧ W.grownBy w' none) := fun W g => ih1 _ _ _ _ _ _ _ (StL.grow h3 (grown_trans g2 g)) (StL.grow h3' (grown_trans g2 g))
  have HC4 : Hid (∀ W, W2.grownBy W none → Calls Try.prog 76 #[.slice a4 x.b.length k4, .slice a4' x.b.length k4'] W fun e w' => e = .returned (.bool true) ∧ W.grownBy w' none) := fun W g => ih2 _ _ _ _ _ _ _ (StL.grow h4 (grown_trans g2 g)) (StL.grow h4' (grown_trans g2 g))
  have HK : Hid (∀ W, W2.grownBy W none → W.cell? ⟨w.heap.size, 3, none⟩ = some (.slice a2 x.dst.length k2) ∧ W.cell? ⟨w.heap.size + 1, 3, none⟩ = some (.slice a2' x.dst.length k2') ∧ W.cell? ⟨w.heap.size, 4, none⟩ = some (.slice a3 x.a.length k3) ∧ W.cell? ⟨w.heap.size + 1, 4, none⟩ = some (.slice a3' x.a.length k3') ∧ W.cell? ⟨w.heap.size, 5, none⟩ = some (.slice a4 x.b.length k4) ∧ W.cell? ⟨w.heap.size + 1, 5, none⟩ = some (.slice a4' x.b.length k4')) := fun W g => ⟨g.cell (K1 3 _ rfl) (by simp), g.cell (K2 3 _ rfl) (by simp), g.cell (K1 4 _ rfl) (by simp), g.cell (K2 4 _ rfl) (by simp), g.cell (K1 5 _ rfl) (by simp), g.cell (K2 5 _ rfl) (by simp)⟩
  have HW2 : Hid (W2 = (w.alloc (.cells #[.int .i64 x.op, .int .i64 x.n, .slice a1 x.args.length k1, .slice a2 x.dst.length k2, .slice a3 x.a.length k3, .slice a4 x.b.length k4] 81)).alloc (.cells #[.int .i64 x.op, .int .i64 x.n, .slice a1' x.args.length k1', .slice a2' x.dst.length k2', .slice a3' x.a.length k3', .slice a4' x.b.length k4'] 81)) := hW2
  have HG : Hid (w.grownBy W2 none) := g2
  clear h1 h1' h2 h2' h3 h3' h4 h4' g2 hW2 K1 K2
  go_enter Try.func90, Try.ntmps90
  go_wp2_with (first
    | (go_at_call 99; rw [← HW2.out]; refine (HC1.out _ (World.grownBy.refl _ _)).mono ?_; rintro e w1 ⟨rfl, g⟩; have HG1 : Hid (W2.grownBy w1 none) := g; obtain ⟨c12, d12, c13, d13, c14, d14⟩ := HK.out w1 HG1.out; clear g HC1)
    | (go_at_call 75; refine (HC2.out _ HG1.out).mono ?_; rintro e w2 ⟨rfl, g⟩; have HG2 : Hid (W2.grownBy w2 none) := grown_trans HG1.out g; obtain ⟨c22, d22, c23, d23, c24, d24⟩ := HK.out w2 HG2.out; clear g HC2)
    | (go_at_call 76; refine (HC3.out _ HG2.out).mono ?_; rintro e w3 ⟨rfl, g⟩; have HG3 : Hid (W2.grownBy w3 none) := grown_trans HG2.out g; obtain ⟨c32, d32, c33, d33, c34, d34⟩ := HK.out w3 HG3.out; clear g HC3)
    | (go_at_call 76; refine (HC4.out _ HG3.out).mono ?_; rintro e w4 ⟨rfl, g⟩; have HG4 : Hid (W2.grownBy w4 none) := grown_trans HG3.out g; clear g HC4))
  go_ret
  exact ⟨rfl, grown_trans HG.out HG4.out⟩
set_option maxRecDepth 100000 in
set_option maxHeartbeats 8000000 in
theorem eqStmts_list (l : List Pg.St) (ih : ∀ x, x ∈ l → EqS x.a ∧ EqS x.b) : ∀ (B B' : Nat → Prop) (w : World) (a a' : Option Addr) (c c' : Nat), StL B w a c l → StL B' w a' c' l → Calls Try.prog 76 #[.slice a l.length c, .slice a' l.length c'] w fun e w' => e = .returned (.bool true) ∧ w.grownBy w' none := by
  intro B B' w a a' c c' h h'
  have hle := h.le
  have hmx := h.max
  have hle' := h'.le
  have hmx' := h'.max
  unfold maxLen at hmx hmx'
  have H1 : Hid (StL B w a c l) := h
  have H2 : Hid (StL B' w a' c' l) := h'
  clear h h'
  have HI : Hid (∀ x, x ∈ l → EqS x.a ∧ EqS x.b) := ih
  clear ih
  go_enter Try.func76, Try.ntmps76
  go_wp2_with fail
  go_loopw [5] (fun ix wr => ∃ k : Nat, ix = .int .i64 k ∧ k ≤ l.length ∧ w.grownBy wr none) (fun ix _ => l.length - (intOf ix).toNat)
  case atStart => exact ⟨0, rfl, Nat.zero_le _, World.grownBy.refl _ _⟩
  case round =>
    obtain ⟨k, rfl, hk, hg⟩ := hrel
    have HG : Hid (w.grownBy wr none) := hg
    by_cases hkn : k < l.length
    · have hkn' : (k : Int) < l.length := by omega
      obtain ⟨b1, o1, rfl, _, p1⟩ := (StL.grow H1.out hg).at hkn
      obtain ⟨b2, o2, rfl, _, p2⟩ := (StL.grow H2.out hg).at hkn
      obtain ⟨a1, a2, a3, a4, k1, k2, k3, k4, p1⟩ := p1.row
      obtain ⟨a1', a2', a3', a4', k1', k2', k3', k4', p2⟩ := p2.row
      have HC := fun W (g : wr.grownBy W none) => eqStmt_true (HI.out l[k] (List.getElem_mem hkn)).1 (HI.out l[k] (List.getElem_mem hkn)).2 (ExL.grow p1.args g) (ExL.grow p2.args g) (NumL.grow p1.dst g) (NumL.grow p2.dst g) (StL.grow p1.a g) (StL.grow p2.a g) (StL.grow p1.b g) (StL.grow p2.b g)
      have x0 := p1.c0
      have y0 := p2.c0
      have x1 := p1.c1
      have y1 := p2.c1
      have x2 := p1.c2
      have y2 := p2.c2
      have x3 := p1.c3
      have y3 := p2.c3
      have x4 := p1.c4
      have y4 := p2.c4
      have x5 := p1.c5
      have y5 := p2.c5
      clear hg p1 p2
      generalize l[k] = x at *
      have HC : Hid (∀ W, wr.grownBy W none → Calls Try.prog 90 #[.agg #[.int .i64 x.op, .int .i64 x.n, .slice a1 x.args.length k1, .slice a2 x.dst.length k2, .slice a3 x.a.length k3, .slice a4 x.b.length k4], .agg #[.int .i64 x.op, .int .i64 x.n, .slice a1' x.args.length k1', .slice a2' x.dst.length k2', .slice a3' x.a.length k3', .slice a4' x.b.length k4']] W fun e w' => e = .returned (.bool true) ∧ W.grownBy w' none) := HC
      go_wp2_with fail
      refine region_src 9 (psiL [eqV (.slice (some ⟨b1, o1, none⟩) l.length c), eqV (.int .i64 (k : Int)), eqV (.pointer (some ⟨b1, o1 + k * 6, none⟩)), eqV (.agg #[.int .i64 (x.op), .int .i64 (x.n), .slice a1 x.args.length k1, .slice a2 x.dst.length k2, .slice a3 x.a.length k3, .slice a4 x.b.length k4]), eqV (.slice (some ⟨b2, o2, none⟩) l.length c'), eqV (.int .i64 (k : Int)), eqV (.pointer (some ⟨b2, o2 + k * 6, none⟩)), eqV (.agg #[.int .i64 (x.op), .int .i64 (x.n), .slice a1' x.args.length k1', .slice a2' x.dst.length k2', .slice a3' x.a.length k3', .slice a4' x.b.length k4']), eqV (.bool true)]) (by kernel_rfl) (by kernel_rfl) (by kernel_rfl) (by kernel_rfl) (psiL_hst (by repeat (first | exact stab_nil | refine stab_cons ?_ ?_ | exact stab_eq _))) ?_ ?_
      · simp only [List.take_succ_cons, List.take_zero]
        refine ⟨?_, ?_, ?_, ?_, ?_, ?_, ?_, ?_, ?_, trivial⟩
        · intro VV W0 AA g hV hs hz
          have e00 := hz 0 (.slice (some ⟨b1, o1, none⟩) l.length c) (by kernel_rfl) rfl
          clear hV hs hz
          refine outO_val (v := .slice (some ⟨b1, o1, none⟩) l.length c) (w' := W0) ?_ (World.grownBy.refl _ _) rfl
          simp [go_sem, e00]
        · intro VV W0 AA g hV hs hz
          have e05 := hz 5 (.int .i64 (k : Int)) (by kernel_rfl) rfl
          clear hV hs hz
          refine outO_val (v := .int .i64 (k : Int)) (w' := W0) ?_ (World.grownBy.refl _ _) rfl
          simp [go_sem, e05]
        · intro VV W0 AA g hV hs hz
          have q0 : VV 0 = .slice (some ⟨b1, o1, none⟩) l.length c := hV 0 (by kernel_rfl)
          have e0 := hs 17 0 (by kernel_rfl) (by kernel_rfl)
          have q1 : VV 1 = .int .i64 (k : Int) := hV 1 (by kernel_rfl)
          have e1 := hs 18 1 (by kernel_rfl) (by kernel_rfl)
          clear hV hs hz
          refine outO_val (v := .pointer (some ⟨b1, o1 + k * 6, none⟩)) (w' := W0) ?_ (World.grownBy.refl _ _) rfl
          simp [go_sem, q0, e0, q1, e1, hkn']
        · intro VV W0 AA g hV hs hz
          have gD : wr.grownBy W0 none := grown_trans (grown_drew (World.grownBy.refl _ none)) g
          have q2 : VV 2 = .pointer (some ⟨b1, o1 + k * 6, none⟩) := hV 2 (by kernel_rfl)
          have e2 := hs 19 2 (by kernel_rfl) (by kernel_rfl)
          have x0 := gD.cell x0 (by simp)
          have x1 := gD.cell x1 (by simp)
          have x2 := gD.cell x2 (by simp)
          have x3 := gD.cell x3 (by simp)
          have x4 := gD.cell x4 (by simp)
          have x5 := gD.cell x5 (by simp)
          clear hV hs hz
          refine outO_val (v := .agg #[.int .i64 (x.op), .int .i64 (x.n), .slice a1 x.args.length k1, .slice a2 x.dst.length k2, .slice a3 x.a.length k3, .slice a4 x.b.length k4]) (w' := W0) ?_ (World.grownBy.refl _ _) rfl
          simp [go_sem, q2, e2, x0, x1, x2, x3, x4, x5]
        · intro VV W0 AA g hV hs hz
          have e01 := hz 1 (.slice (some ⟨b2, o2, none⟩) l.length c') (by kernel_rfl) rfl
          clear hV hs hz
          refine outO_val (v := .slice (some ⟨b2, o2, none⟩) l.length c') (w' := W0) ?_ (World.grownBy.refl _ _) rfl
          simp [go_sem, e01]
        · intro VV W0 AA g hV hs hz
          have e05 := hz 5 (.int .i64 (k : Int)) (by kernel_rfl) rfl
          clear hV hs hz
          refine outO_val (v := .int .i64 (k : Int)) (w' := W0) ?_ (World.grownBy.refl _ _) rfl
          simp [go_sem, e05]
        · intro VV W0 AA g hV hs hz
          have q4 : VV 4 = .slice (some ⟨b2, o2, none⟩) l.length c' := hV 4 (by kernel_rfl)
          have e4 := hs 21 4 (by kernel_rfl) (by kernel_rfl)
          have q5 : VV 5 = .int .i64 (k : Int) := hV 5 (by kernel_rfl)
          have e5 := hs 22 5 (by kernel_rfl) (by kernel_rfl)
          clear hV hs hz
          refine outO_val (v := .pointer (some ⟨b2, o2 + k * 6, none⟩)) (w' := W0) ?_ (World.grownBy.refl _ _) rfl
          simp [go_sem, q4, e4, q5, e5, hkn']
        · intro VV W0 AA g hV hs hz
          have gD : wr.grownBy W0 none := grown_trans (grown_drew (World.grownBy.refl _ none)) g
          have q6 : VV 6 = .pointer (some ⟨b2, o2 + k * 6, none⟩) := hV 6 (by kernel_rfl)
          have e6 := hs 23 6 (by kernel_rfl) (by kernel_rfl)
          have x0 := gD.cell y0 (by simp)
          have x1 := gD.cell y1 (by simp)
          have x2 := gD.cell y2 (by simp)
          have x3 := gD.cell y3 (by simp)
          have x4 := gD.cell y4 (by simp)
          have x5 := gD.cell y5 (by simp)
          clear hV hs hz
          refine outO_val (v := .agg #[.int .i64 (x.op), .int .i64 (x.n), .slice a1' x.args.length k1', .slice a2' x.dst.length k2', .slice a3' x.a.length k3', .slice a4' x.b.length k4']) (w' := W0) ?_ (World.grownBy.refl _ _) rfl
          simp [go_sem, q6, e6, x0, x1, x2, x3, x4, x5]
        · intro VV W0 AA g hV hs hz
          have gD : wr.grownBy W0 none := grown_trans (grown_drew (World.grownBy.refl _ none)) g
          have q3 : VV 3 = .agg #[.int .i64 (x.op), .int .i64 (x.n), .slice a1 x.args.length k1, .slice a2 x.dst.length k2, .slice a3 x.a.length k3, .slice a4 x.b.length k4] := hV 3 (by kernel_rfl)
          have e3 := hs 20 3 (by kernel_rfl) (by kernel_rfl)
          have q7 : VV 7 = .agg #[.int .i64 (x.op), .int .i64 (x.n), .slice a1' x.args.length k1', .slice a2' x.dst.length k2', .slice a3' x.a.length k3', .slice a4' x.b.length k4'] := hV 7 (by kernel_rfl)
          have e7 := hs 24 7 (by kernel_rfl) (by kernel_rfl)
          clear hV hs hz
          refine outO_call (f := 90) ?_ ((HC.out W0 gD).mono fun e w2 ⟨he, hg⟩ => ⟨_, he, hg, rfl⟩)
          simp [go_sem, q3, e3, q7, e7]
      · intro VV W0 g hV
        have gD : wr.grownBy W0 none := grown_trans (grown_drew (World.grownBy.refl _ none)) g
        have h0 : VV 0 = .slice (some ⟨b1, o1, none⟩) l.length c := hV 0 (by decide)
        have h1 : VV 1 = .int .i64 (k : Int) := hV 1 (by decide)
        have h2 : VV 2 = .pointer (some ⟨b1, o1 + k * 6, none⟩) := hV 2 (by decide)
        have h3 : VV 3 = .agg #[.int .i64 (x.op), .int .i64 (x.n), .slice a1 x.args.length k1, .slice a2 x.dst.length k2, .slice a3 x.a.length k3, .slice a4 x.b.length k4] := hV 3 (by decide)
        have h4 : VV 4 = .slice (some ⟨b2, o2, none⟩) l.length c' := hV 4 (by decide)
        have h5 : VV 5 = .int .i64 (k : Int) := hV 5 (by decide)
        have h6 : VV 6 = .pointer (some ⟨b2, o2 + k * 6, none⟩) := hV 6 (by decide)
        have h7 : VV 7 = .agg #[.int .i64 (x.op), .int .i64 (x.n), .slice a1' x.args.length k1', .slice a2' x.dst.length k2', .slice a3' x.a.length k3', .slice a4' x.b.length k4'] := hV 7 (by decide)
        have h8 : VV 8 = .bool true := hV 8 (by decide)
        simp [frV, dstOf, Act.put, h0, h1, h2, h3, h4, h5, h6, h7, h8]
        clear h0 h1 h2 h3 h4 h5 h6 h7 h8 hV g
        have GR : Hid (wr.grownBy W0 none) := gD
        clear gD
        go_wp2
        go_roundw
        case rel => exact ⟨k + 1, by go_num, by omega, grown_trans HG.out GR.out⟩
        case measure => simp [intOf]; omega
    · obtain rfl : k = l.length := by omega
      clear hg
      go_wp2
      go_ret
      exact ⟨rfl, HG.out⟩
theorem eqStmts_any (l : List Pg.St) : EqS l := eqStmts_list l fun x _ => Pg.St.ind (P := fun x => EqS x.a ∧ EqS x.b) (fun _ _ _ _ a b ia ib => ⟨eqStmts_list a ia, eqStmts_list b ib⟩) x
set_option maxRecDepth 100000 in
set_option maxHeartbeats 8000000 in
theorem eqType_true {B B' : Nat → Prop} {w : World} {x : Pg.Tp} {a1 a1' : Option Addr} {k1 k1' : Nat}  (h1 : NumL B w a1 k1 x.fields) (h1' : NumL B' w a1' k1' x.fields) :
    Calls Try.prog 57 #[.agg #[.int .i64 x.kind, .int .i64 x.elem, .int .i64 x.n, .slice a1 x.fields.length k1], .agg #[.int .i64 x.kind, .int .i64 x.elem, .int .i64 x.n, .slice a1' x.fields.length k1']] w fun e w' => e = .returned (.bool true) ∧ w.grownBy w' none := by
  obtain ⟨W2, hW2⟩ : ∃ W2, W2 = (w.alloc (.cells #[.int .i64 x.kind, .int .i64 x.elem, .int .i64 x.n, .slice a1 x.fields.length k1] 51)).alloc (.cells #[.int .i64 x.kind, .int .i64 x.elem, .int .i64 x.n, .slice a1' x.fields.length k1'] 51) := ⟨_, rfl⟩
  have g2 : w.grownBy W2 none := by rw [hW2]; exact ga (World.grownBy_alloc _ _ _) _
  have K1 : ∀ j v, (#[.int .i64 x.kind, .int .i64 x.elem, .int .i64 x.n, .slice a1 x.fields.length k1] : Array Value)[j]? = some v → W2.cell? ⟨w.heap.size, j, none⟩ = some v := fun j v hv => by rw [hW2]; exact (Ch.of (l := []) (World.grownBy_alloc _ _ _)).cell ((cells_new _ _ rfl _).trans hv) (by simp)
  have K2 : ∀ j v, (#[.int .i64 x.kind, .int .i64 x.elem, .int .i64 x.n, .slice a1' x.fields.length k1'] : Array Value)[j]? = some v → W2.cell? ⟨w.heap.size + 1, j, none⟩ = some v := fun j v hv => by rw [hW2, ← hv]; exact cells_new _ _ (by simp) _
  have HC1 : Hid (∀ W, W2.grownBy W none → Calls Try.prog 75 #[.slice a1 x.fields.length k1, .slice a1' x.fields.length k1'] W fun e w' => e = .returned (.bool true) ∧ W.grownBy w' none) := fun W g => eqNumL _ _ _ _ _ _ _ _ (NumL.grow h1 (grown_trans g2 g)) (NumL.grow h1' (grown_trans g2 g))
  have HW2 : Hid (W2 = (w.alloc (.cells #[.int .i64 x.kind, .int .i64 x.elem, .int .i64 x.n, .slice a1 x.fields.length k1] 51)).alloc (.cells #[.int .i64 x.kind, .int .i64 x.elem, .int .i64 x.n, .slice a1' x.fields.length k1'] 51)) := hW2
  have HG : Hid (w.grownBy W2 none) := g2
  clear h1 h1' g2 hW2 K1 K2
  go_enter Try.func57, Try.ntmps57
  go_wp2_with (first
    | (go_at_call 75; rw [← HW2.out]; refine (HC1.out _ (World.grownBy.refl _ _)).mono ?_; rintro e w1 ⟨rfl, g⟩; have HG1 : Hid (W2.grownBy w1 none) := g; clear g HC1))
  go_ret
  exact ⟨rfl, grown_trans HG.out HG1.out⟩
set_option maxRecDepth 100000 in
set_option maxHeartbeats 8000000 in
theorem eqTypes_list (l : List Pg.Tp) : ∀ (B B' : Nat → Prop) (w : World) (a a' : Option Addr) (c c' : Nat), TpL B w a c l → TpL B' w a' c' l → Calls Try.prog 31 #[.slice a l.length c, .slice a' l.length c'] w fun e w' => e = .returned (.bool true) ∧ w.grownBy w' none := by
  intro B B' w a a' c c' h h'
  have hle := h.le
  have hmx := h.max
  have hle' := h'.le
  have hmx' := h'.max
  unfold maxLen at hmx hmx'
  have H1 : Hid (TpL B w a c l) := h
  have H2 : Hid (TpL B' w a' c' l) := h'
  clear h h'
  go_enter Try.func31, Try.ntmps31
  go_wp2_with fail
  go_loopw [5] (fun ix wr => ∃ k : Nat, ix = .int .i64 k ∧ k ≤ l.length ∧ w.grownBy wr none) (fun ix _ => l.length - (intOf ix).toNat)
  case atStart => exact ⟨0, rfl, Nat.zero_le _, World.grownBy.refl _ _⟩
  case round =>
    obtain ⟨k, rfl, hk, hg⟩ := hrel
    have HG : Hid (w.grownBy wr none) := hg
    by_cases hkn : k < l.length
    · have hkn' : (k : Int) < l.length := by omega
      obtain ⟨b1, o1, rfl, _, p1⟩ := (TpL.grow H1.out hg).at hkn
      obtain ⟨b2, o2, rfl, _, p2⟩ := (TpL.grow H2.out hg).at hkn
      obtain ⟨a1, k1, p1⟩ := p1
      obtain ⟨a1', k1', p2⟩ := p2
      have HC := fun W (g : wr.grownBy W none) => eqType_true (NumL.grow p1.f g) (NumL.grow p2.f g)
      have x0 := p1.c0
      have y0 := p2.c0
      have x1 := p1.c1
      have y1 := p2.c1
      have x2 := p1.c2
      have y2 := p2.c2
      have x3 := p1.c3
      have y3 := p2.c3
      clear hg p1 p2
      generalize l[k] = x at *
      have HC : Hid (∀ W, wr.grownBy W none → Calls Try.prog 57 #[.agg #[.int .i64 x.kind, .int .i64 x.elem, .int .i64 x.n, .slice a1 x.fields.length k1], .agg #[.int .i64 x.kind, .int .i64 x.elem, .int .i64 x.n, .slice a1' x.fields.length k1']] W fun e w' => e = .returned (.bool true) ∧ W.grownBy w' none) := HC
      go_wp2_with fail
      refine region_src 9 (psiL [eqV (.slice (some ⟨b1, o1, none⟩) l.length c), eqV (.int .i64 (k : Int)), eqV (.pointer (some ⟨b1, o1 + k * 4, none⟩)), eqV (.agg #[.int .i64 (x.kind), .int .i64 (x.elem), .int .i64 (x.n), .slice a1 x.fields.length k1]), eqV (.slice (some ⟨b2, o2, none⟩) l.length c'), eqV (.int .i64 (k : Int)), eqV (.pointer (some ⟨b2, o2 + k * 4, none⟩)), eqV (.agg #[.int .i64 (x.kind), .int .i64 (x.elem), .int .i64 (x.n), .slice a1' x.fields.length k1']), eqV (.bool true)]) (by kernel_rfl) (by kernel_rfl) (by kernel_rfl) (by kernel_rfl) (psiL_hst (by repeat (first | exact stab_nil | refine stab_cons ?_ ?_ | exact stab_eq _))) ?_ ?_
      · simp only [List.take_succ_cons, List.take_zero]
        refine ⟨?_, ?_, ?_, ?_, ?_, ?_, ?_, ?_, ?_, trivial⟩
        · intro VV W0 AA g hV hs hz
          have e00 := hz 0 (.slice (some ⟨b1, o1, none⟩) l.length c) (by kernel_rfl) rfl
          clear hV hs hz
          refine outO_val (v := .slice (some ⟨b1, o1, none⟩) l.length c) (w' := W0) ?_ (World.grownBy.refl _ _) rfl
          simp [go_sem, e00]
        · intro VV W0 AA g hV hs hz
          have e05 := hz 5 (.int .i64 (k : Int)) (by kernel_rfl) rfl
          clear hV hs hz
          refine outO_val (v := .int .i64 (k : Int)) (w' := W0) ?_ (World.grownBy.refl _ _) rfl
          simp [go_sem, e05]
        · intro VV W0 AA g hV hs hz
          have q0 : VV 0 = .slice (some ⟨b1, o1, none⟩) l.length c := hV 0 (by kernel_rfl)
          have e0 := hs 17 0 (by kernel_rfl) (by kernel_rfl)
          have q1 : VV 1 = .int .i64 (k : Int) := hV 1 (by kernel_rfl)
          have e1 := hs 18 1 (by kernel_rfl) (by kernel_rfl)
          clear hV hs hz
          refine outO_val (v := .pointer (some ⟨b1, o1 + k * 4, none⟩)) (w' := W0) ?_ (World.grownBy.refl _ _) rfl
          simp [go_sem, q0, e0, q1, e1, hkn']
        · intro VV W0 AA g hV hs hz
          have gD : wr.grownBy W0 none := grown_trans (grown_drew (World.grownBy.refl _ none)) g
          have q2 : VV 2 = .pointer (some ⟨b1, o1 + k * 4, none⟩) := hV 2 (by kernel_rfl)
          have e2 := hs 19 2 (by kernel_rfl) (by kernel_rfl)
          have x0 := gD.cell x0 (by simp)
          have x1 := gD.cell x1 (by simp)
          have x2 := gD.cell x2 (by simp)
          have x3 := gD.cell x3 (by simp)
          clear hV hs hz
          refine outO_val (v := .agg #[.int .i64 (x.kind), .int .i64 (x.elem), .int .i64 (x.n), .slice a1 x.fields.length k1]) (w' := W0) ?_ (World.grownBy.refl _ _) rfl
          simp [go_sem, q2, e2, x0, x1, x2, x3]
        · intro VV W0 AA g hV hs hz
          have e01 := hz 1 (.slice (some ⟨b2, o2, none⟩) l.length c') (by kernel_rfl) rfl
          clear hV hs hz
          refine outO_val (v := .slice (some ⟨b2, o2, none⟩) l.length c') (w' := W0) ?_ (World.grownBy.refl _ _) rfl
          simp [go_sem, e01]
        · intro VV W0 AA g hV hs hz
          have e05 := hz 5 (.int .i64 (k : Int)) (by kernel_rfl) rfl
          clear hV hs hz
          refine outO_val (v := .int .i64 (k : Int)) (w' := W0) ?_ (World.grownBy.refl _ _) rfl
          simp [go_sem, e05]
        · intro VV W0 AA g hV hs hz
          have q4 : VV 4 = .slice (some ⟨b2, o2, none⟩) l.length c' := hV 4 (by kernel_rfl)
          have e4 := hs 21 4 (by kernel_rfl) (by kernel_rfl)
          have q5 : VV 5 = .int .i64 (k : Int) := hV 5 (by kernel_rfl)
          have e5 := hs 22 5 (by kernel_rfl) (by kernel_rfl)
          clear hV hs hz
          refine outO_val (v := .pointer (some ⟨b2, o2 + k * 4, none⟩)) (w' := W0) ?_ (World.grownBy.refl _ _) rfl
          simp [go_sem, q4, e4, q5, e5, hkn']
        · intro VV W0 AA g hV hs hz
          have gD : wr.grownBy W0 none := grown_trans (grown_drew (World.grownBy.refl _ none)) g
          have q6 : VV 6 = .pointer (some ⟨b2, o2 + k * 4, none⟩) := hV 6 (by kernel_rfl)
          have e6 := hs 23 6 (by kernel_rfl) (by kernel_rfl)
          have x0 := gD.cell y0 (by simp)
          have x1 := gD.cell y1 (by simp)
          have x2 := gD.cell y2 (by simp)
          have x3 := gD.cell y3 (by simp)
          clear hV hs hz
          refine outO_val (v := .agg #[.int .i64 (x.kind), .int .i64 (x.elem), .int .i64 (x.n), .slice a1' x.fields.length k1']) (w' := W0) ?_ (World.grownBy.refl _ _) rfl
          simp [go_sem, q6, e6, x0, x1, x2, x3]
        · intro VV W0 AA g hV hs hz
          have gD : wr.grownBy W0 none := grown_trans (grown_drew (World.grownBy.refl _ none)) g
          have q3 : VV 3 = .agg #[.int .i64 (x.kind), .int .i64 (x.elem), .int .i64 (x.n), .slice a1 x.fields.length k1] := hV 3 (by kernel_rfl)
          have e3 := hs 20 3 (by kernel_rfl) (by kernel_rfl)
          have q7 : VV 7 = .agg #[.int .i64 (x.kind), .int .i64 (x.elem), .int .i64 (x.n), .slice a1' x.fields.length k1'] := hV 7 (by kernel_rfl)
          have e7 := hs 24 7 (by kernel_rfl) (by kernel_rfl)
          clear hV hs hz
          refine outO_call (f := 57) ?_ ((HC.out W0 gD).mono fun e w2 ⟨he, hg⟩ => ⟨_, he, hg, rfl⟩)
          simp [go_sem, q3, e3, q7, e7]
      · intro VV W0 g hV
        have gD : wr.grownBy W0 none := grown_trans (grown_drew (World.grownBy.refl _ none)) g
        have h0 : VV 0 = .slice (some ⟨b1, o1, none⟩) l.length c := hV 0 (by decide)
        have h1 : VV 1 = .int .i64 (k : Int) := hV 1 (by decide)
        have h2 : VV 2 = .pointer (some ⟨b1, o1 + k * 4, none⟩) := hV 2 (by decide)
        have h3 : VV 3 = .agg #[.int .i64 (x.kind), .int .i64 (x.elem), .int .i64 (x.n), .slice a1 x.fields.length k1] := hV 3 (by decide)
        have h4 : VV 4 = .slice (some ⟨b2, o2, none⟩) l.length c' := hV 4 (by decide)
        have h5 : VV 5 = .int .i64 (k : Int) := hV 5 (by decide)
        have h6 : VV 6 = .pointer (some ⟨b2, o2 + k * 4, none⟩) := hV 6 (by decide)
        have h7 : VV 7 = .agg #[.int .i64 (x.kind), .int .i64 (x.elem), .int .i64 (x.n), .slice a1' x.fields.length k1'] := hV 7 (by decide)
        have h8 : VV 8 = .bool true := hV 8 (by decide)
        simp [frV, dstOf, Act.put, h0, h1, h2, h3, h4, h5, h6, h7, h8]
        clear h0 h1 h2 h3 h4 h5 h6 h7 h8 hV g
        have GR : Hid (wr.grownBy W0 none) := gD
        clear gD
        go_wp2
        go_roundw
        case rel => exact ⟨k + 1, by go_num, by omega, grown_trans HG.out GR.out⟩
        case measure => simp [intOf]; omega
    · obtain rfl : k = l.length := by omega
      clear hg
      go_wp2
      go_ret
      exact ⟨rfl, HG.out⟩
set_option maxRecDepth 100000 in
set_option maxHeartbeats 8000000 in
theorem eqFunc_true {B B' : Nat → Prop} {w : World} {x : Pg.Fn} {a1 a1' a2 a2' a3 a3' : Option Addr} {k1 k1' k2 k2' k3 k3' : Nat}  (h1 : NumL B w a1 k1 x.locals) (h1' : NumL B' w a1' k1' x.locals) (h2 : NumL B w a2 k2 x.results) (h2' : NumL B' w a2' k2' x.results) (h3 : StL B w a3 k3 x.body) (h3' : StL B' w a3' k3' x.body) :
    Calls Try.prog 58 #[.agg #[.int .i64 x.params, .slice a1 x.locals.length k1, .slice a2 x.results.length k2, .slice a3 x.body.length k3], .agg #[.int .i64 x.params, .slice a1' x.locals.length k1', .slice a2' x.results.length k2', .slice a3' x.body.length k3']] w fun e w' => e = .returned (.bool true) ∧ w.grownBy w' none := by
  obtain ⟨W2, hW2⟩ : ∃ W2, W2 = (w.alloc (.cells #[.int .i64 x.params, .slice a1 x.locals.length k1, .slice a2 x.results.length k2, .slice a3 x.body.length k3] 55)).alloc (.cells #[.int .i64 x.params, .slice a1' x.locals.length k1', .slice a2' x.results.length k2', .slice a3' x.body.length k3'] 55) := ⟨_, rfl⟩
  have g2 : w.grownBy W2 none := by rw [hW2]; exact ga (World.grownBy_alloc _ _ _) _
  have K1 : ∀ j v, (#[.int .i64 x.params, .slice a1 x.locals.length k1, .slice a2 x.results.length k2, .slice a3 x.body.length k3] : Array Value)[j]? = some v → W2.cell? ⟨w.heap.size, j, none⟩ = some v := fun j v hv => by rw [hW2]; exact (Ch.of (l := []) (World.grownBy_alloc _ _ _)).cell ((cells_new _ _ rfl _).trans hv) (by simp)
  have K2 : ∀ j v, (#[.int .i64 x.params, .slice a1' x.locals.length k1', .slice a2' x.results.length k2', .slice a3' x.body.length k3'] : Array Value)[j]? = some v → W2.cell? ⟨w.heap.size + 1, j, none⟩ = some v := fun j v hv => by rw [hW2, ← hv]; exact cells_new _ _ (by simp) _
  have HC1 : Hid (∀ W, W2.grownBy W none → Calls Try.prog 75 #[.slice a1 x.locals.length k1, .slice a1' x.locals.length k1'] W fun e w' => e = .returned (.bool true) ∧ W.grownBy w' none) := fun W g => eqNumL _ _ _ _ _ _ _ _ (NumL.grow h1 (grown_trans g2 g)) (NumL.grow h1' (grown_trans g2 g))
  have HC2 : Hid (∀ W, W2.grownBy W none → Calls Try.prog 75 #[.slice a2 x.results.length k2, .slice a2' x.results.length k2'] W fun e w' => e = .returned (.bool true) ∧ W.grownBy w' none) := fun W g => eqNumL _ _ _ _ _ _ _ _ (NumL.grow h2 (grown_trans g2 g)) (NumL.grow h2' (grown_trans g2 g))
  have HC3 : Hid (∀ W, W2.grownBy W none → Calls Try.prog 76 #[.slice a3 x.body.length k3, .slice a3' x.body.length k3'] W fun e w' => e = .returned (.bool true) ∧ W.grownBy w' none) := fun W g => eqStmts_any _ _ _ _ _ _ _ _ (StL.grow h3 (grown_trans g2 g)) (StL.grow h3' (grown_trans g2 g))
  have HK : Hid (∀ W, W2.grownBy W none → W.cell? ⟨w.heap.size, 2, none⟩ = some (.slice a2 x.results.length k2) ∧ W.cell? ⟨w.heap.size + 1, 2, none⟩ = some (.slice a2' x.results.length k2') ∧ W.cell? ⟨w.heap.size, 3, none⟩ = some (.slice a3 x.body.length k3) ∧ W.cell? ⟨w.heap.size + 1, 3, none⟩ = some (.slice a3' x.body.length k3')) := fun W g => ⟨g.cell (K1 2 _ rfl) (by simp), g.cell (K2 2 _ rfl) (by simp), g.cell (K1 3 _ rfl) (by simp), g.cell (K2 3 _ rfl) (by simp)⟩
  have HW2 : Hid (W2 = (w.alloc (.cells #[.int .i64 x.params, .slice a1 x.locals.length k1, .slice a2 x.results.length k2, .slice a3 x.body.length k3] 55)).alloc (.cells #[.int .i64 x.params, .slice a1' x.locals.length k1', .slice a2' x.results.length k2', .slice a3' x.body.length k3'] 55)) := hW2
  have HG : Hid (w.grownBy W2 none) := g2
  clear h1 h1' h2 h2' h3 h3' g2 hW2 K1 K2
  go_enter Try.func58, Try.ntmps58
  go_wp2_with (first
    | (go_at_call 75; rw [← HW2.out]; refine (HC1.out _ (World.grownBy.refl _ _)).mono ?_; rintro e w1 ⟨rfl, g⟩; have HG1 : Hid (W2.grownBy w1 none) := g; obtain ⟨c12, d12, c13, d13⟩ := HK.out w1 HG1.out; clear g HC1)
    | (go_at_call 75; refine (HC2.out _ HG1.out).mono ?_; rintro e w2 ⟨rfl, g⟩; have HG2 : Hid (W2.grownBy w2 none) := grown_trans HG1.out g; obtain ⟨c22, d22, c23, d23⟩ := HK.out w2 HG2.out; clear g HC2)
    | (go_at_call 76; refine (HC3.out _ HG2.out).mono ?_; rintro e w3 ⟨rfl, g⟩; have HG3 : Hid (W2.grownBy w3 none) := grown_trans HG2.out g; clear g HC3))
  go_ret
  exact ⟨rfl, grown_trans HG.out HG3.out⟩
set_option maxRecDepth 100000 in
set_option maxHeartbeats 8000000 in
theorem eqFuncs_list (l : List Pg.Fn) : ∀ (B B' : Nat → Prop) (w : World) (a a' : Option Addr) (c c' : Nat), FnL B w a c l → FnL B' w a' c' l → Calls Try.prog 32 #[.slice a l.length c, .slice a' l.length c'] w fun e w' => e = .returned (.bool true) ∧ w.grownBy w' none := by
  intro B B' w a a' c c' h h'
  have hle := h.le
  have hmx := h.max
  have hle' := h'.le
  have hmx' := h'.max
  unfold maxLen at hmx hmx'
  have H1 : Hid (FnL B w a c l) := h
  have H2 : Hid (FnL B' w a' c' l) := h'
  clear h h'
  go_enter Try.func32, Try.ntmps32
  go_wp2_with fail
  go_loopw [5] (fun ix wr => ∃ k : Nat, ix = .int .i64 k ∧ k ≤ l.length ∧ w.grownBy wr none) (fun ix _ => l.length - (intOf ix).toNat)
  case atStart => exact ⟨0, rfl, Nat.zero_le _, World.grownBy.refl _ _⟩
  case round =>
    obtain ⟨k, rfl, hk, hg⟩ := hrel
    have HG : Hid (w.grownBy wr none) := hg
    by_cases hkn : k < l.length
    · have hkn' : (k : Int) < l.length := by omega
      obtain ⟨b1, o1, rfl, _, p1⟩ := (FnL.grow H1.out hg).at hkn
      obtain ⟨b2, o2, rfl, _, p2⟩ := (FnL.grow H2.out hg).at hkn
      obtain ⟨a1, a2, a3, k1, k2, k3, p1⟩ := p1
      obtain ⟨a1', a2', a3', k1', k2', k3', p2⟩ := p2
      have HC := fun W (g : wr.grownBy W none) => eqFunc_true (NumL.grow p1.l g) (NumL.grow p2.l g) (NumL.grow p1.r g) (NumL.grow p2.r g) (StL.grow p1.b g) (StL.grow p2.b g)
      have x0 := p1.c0
      have y0 := p2.c0
      have x1 := p1.c1
      have y1 := p2.c1
      have x2 := p1.c2
      have y2 := p2.c2
      have x3 := p1.c3
      have y3 := p2.c3
      clear hg p1 p2
      generalize l[k] = x at *
      have HC : Hid (∀ W, wr.grownBy W none → Calls Try.prog 58 #[.agg #[.int .i64 x.params, .slice a1 x.locals.length k1, .slice a2 x.results.length k2, .slice a3 x.body.length k3], .agg #[.int .i64 x.params, .slice a1' x.locals.length k1', .slice a2' x.results.length k2', .slice a3' x.body.length k3']] W fun e w' => e = .returned (.bool true) ∧ W.grownBy w' none) := HC
      go_wp2_with fail
      refine region_src 9 (psiL [eqV (.slice (some ⟨b1, o1, none⟩) l.length c), eqV (.int .i64 (k : Int)), eqV (.pointer (some ⟨b1, o1 + k * 4, none⟩)), eqV (.agg #[.int .i64 (x.params), .slice a1 x.locals.length k1, .slice a2 x.results.length k2, .slice a3 x.body.length k3]), eqV (.slice (some ⟨b2, o2, none⟩) l.length c'), eqV (.int .i64 (k : Int)), eqV (.pointer (some ⟨b2, o2 + k * 4, none⟩)), eqV (.agg #[.int .i64 (x.params), .slice a1' x.locals.length k1', .slice a2' x.results.length k2', .slice a3' x.body.length k3']), eqV (.bool true)]) (by kernel_rfl) (by kernel_rfl) (by kernel_rfl) (by kernel_rfl) (psiL_hst (by repeat (first | exact stab_nil | refine stab_cons ?_ ?_ | exact stab_eq _))) ?_ ?_
      · simp only [List.take_succ_cons, List.take_zero]
        refine ⟨?_, ?_, ?_, ?_, ?_, ?_, ?_, ?_, ?_, trivial⟩
        · intro VV W0 AA g hV hs hz
          have e00 := hz 0 (.slice (some ⟨b1, o1, none⟩) l.length c) (by kernel_rfl) rfl
          clear hV hs hz
          refine outO_val (v := .slice (some ⟨b1, o1, none⟩) l.length c) (w' := W0) ?_ (World.grownBy.refl _ _) rfl
          simp [go_sem, e00]
        · intro VV W0 AA g hV hs hz
          have e05 := hz 5 (.int .i64 (k : Int)) (by kernel_rfl) rfl
          clear hV hs hz
          refine outO_val (v := .int .i64 (k : Int)) (w' := W0) ?_ (World.grownBy.refl _ _) rfl
          simp [go_sem, e05]
        · intro VV W0 AA g hV hs hz
          have q0 : VV 0 = .slice (some ⟨b1, o1, none⟩) l.length c := hV 0 (by kernel_rfl)
          have e0 := hs 17 0 (by kernel_rfl) (by kernel_rfl)
          have q1 : VV 1 = .int .i64 (k : Int) := hV 1 (by kernel_rfl)
          have e1 := hs 18 1 (by kernel_rfl) (by kernel_rfl)
          clear hV hs hz
          refine outO_val (v := .pointer (some ⟨b1, o1 + k * 4, none⟩)) (w' := W0) ?_ (World.grownBy.refl _ _) rfl
          simp [go_sem, q0, e0, q1, e1, hkn']
        · intro VV W0 AA g hV hs hz
          have gD : wr.grownBy W0 none := grown_trans (grown_drew (World.grownBy.refl _ none)) g
          have q2 : VV 2 = .pointer (some ⟨b1, o1 + k * 4, none⟩) := hV 2 (by kernel_rfl)
          have e2 := hs 19 2 (by kernel_rfl) (by kernel_rfl)
          have x0 := gD.cell x0 (by simp)
          have x1 := gD.cell x1 (by simp)
          have x2 := gD.cell x2 (by simp)
          have x3 := gD.cell x3 (by simp)
          clear hV hs hz
          refine outO_val (v := .agg #[.int .i64 (x.params), .slice a1 x.locals.length k1, .slice a2 x.results.length k2, .slice a3 x.body.length k3]) (w' := W0) ?_ (World.grownBy.refl _ _) rfl
          simp [go_sem, q2, e2, x0, x1, x2, x3]
        · intro VV W0 AA g hV hs hz
          have e01 := hz 1 (.slice (some ⟨b2, o2, none⟩) l.length c') (by kernel_rfl) rfl
          clear hV hs hz
          refine outO_val (v := .slice (some ⟨b2, o2, none⟩) l.length c') (w' := W0) ?_ (World.grownBy.refl _ _) rfl
          simp [go_sem, e01]
        · intro VV W0 AA g hV hs hz
          have e05 := hz 5 (.int .i64 (k : Int)) (by kernel_rfl) rfl
          clear hV hs hz
          refine outO_val (v := .int .i64 (k : Int)) (w' := W0) ?_ (World.grownBy.refl _ _) rfl
          simp [go_sem, e05]
        · intro VV W0 AA g hV hs hz
          have q4 : VV 4 = .slice (some ⟨b2, o2, none⟩) l.length c' := hV 4 (by kernel_rfl)
          have e4 := hs 21 4 (by kernel_rfl) (by kernel_rfl)
          have q5 : VV 5 = .int .i64 (k : Int) := hV 5 (by kernel_rfl)
          have e5 := hs 22 5 (by kernel_rfl) (by kernel_rfl)
          clear hV hs hz
          refine outO_val (v := .pointer (some ⟨b2, o2 + k * 4, none⟩)) (w' := W0) ?_ (World.grownBy.refl _ _) rfl
          simp [go_sem, q4, e4, q5, e5, hkn']
        · intro VV W0 AA g hV hs hz
          have gD : wr.grownBy W0 none := grown_trans (grown_drew (World.grownBy.refl _ none)) g
          have q6 : VV 6 = .pointer (some ⟨b2, o2 + k * 4, none⟩) := hV 6 (by kernel_rfl)
          have e6 := hs 23 6 (by kernel_rfl) (by kernel_rfl)
          have x0 := gD.cell y0 (by simp)
          have x1 := gD.cell y1 (by simp)
          have x2 := gD.cell y2 (by simp)
          have x3 := gD.cell y3 (by simp)
          clear hV hs hz
          refine outO_val (v := .agg #[.int .i64 (x.params), .slice a1' x.locals.length k1', .slice a2' x.results.length k2', .slice a3' x.body.length k3']) (w' := W0) ?_ (World.grownBy.refl _ _) rfl
          simp [go_sem, q6, e6, x0, x1, x2, x3]
        · intro VV W0 AA g hV hs hz
          have gD : wr.grownBy W0 none := grown_trans (grown_drew (World.grownBy.refl _ none)) g
          have q3 : VV 3 = .agg #[.int .i64 (x.params), .slice a1 x.locals.length k1, .slice a2 x.results.length k2, .slice a3 x.body.length k3] := hV 3 (by kernel_rfl)
          have e3 := hs 20 3 (by kernel_rfl) (by kernel_rfl)
          have q7 : VV 7 = .agg #[.int .i64 (x.params), .slice a1' x.locals.length k1', .slice a2' x.results.length k2', .slice a3' x.body.length k3'] := hV 7 (by kernel_rfl)
          have e7 := hs 24 7 (by kernel_rfl) (by kernel_rfl)
          clear hV hs hz
          refine outO_call (f := 58) ?_ ((HC.out W0 gD).mono fun e w2 ⟨he, hg⟩ => ⟨_, he, hg, rfl⟩)
          simp [go_sem, q3, e3, q7, e7]
      · intro VV W0 g hV
        have gD : wr.grownBy W0 none := grown_trans (grown_drew (World.grownBy.refl _ none)) g
        have h0 : VV 0 = .slice (some ⟨b1, o1, none⟩) l.length c := hV 0 (by decide)
        have h1 : VV 1 = .int .i64 (k : Int) := hV 1 (by decide)
        have h2 : VV 2 = .pointer (some ⟨b1, o1 + k * 4, none⟩) := hV 2 (by decide)
        have h3 : VV 3 = .agg #[.int .i64 (x.params), .slice a1 x.locals.length k1, .slice a2 x.results.length k2, .slice a3 x.body.length k3] := hV 3 (by decide)
        have h4 : VV 4 = .slice (some ⟨b2, o2, none⟩) l.length c' := hV 4 (by decide)
        have h5 : VV 5 = .int .i64 (k : Int) := hV 5 (by decide)
        have h6 : VV 6 = .pointer (some ⟨b2, o2 + k * 4, none⟩) := hV 6 (by decide)
        have h7 : VV 7 = .agg #[.int .i64 (x.params), .slice a1' x.locals.length k1', .slice a2' x.results.length k2', .slice a3' x.body.length k3'] := hV 7 (by decide)
        have h8 : VV 8 = .bool true := hV 8 (by decide)
        simp [frV, dstOf, Act.put, h0, h1, h2, h3, h4, h5, h6, h7, h8]
        clear h0 h1 h2 h3 h4 h5 h6 h7 h8 hV g
        have GR : Hid (wr.grownBy W0 none) := gD
        clear gD
        go_wp2
        go_roundw
        case rel => exact ⟨k + 1, by go_num, by omega, grown_trans HG.out GR.out⟩
        case measure => simp [intOf]; omega
    · obtain rfl : k = l.length := by omega
      clear hg
      go_wp2
      go_ret
      exact ⟨rfl, HG.out⟩
set_option maxRecDepth 100000 in
set_option maxHeartbeats 8000000 in
theorem eqProgram_true {B B' : Nat → Prop} {w : World} {x : Pg.Pr} {a1 a1' a2 a2' : Option Addr} {k1 k1' k2 k2' : Nat}  (h1 : TpL B w a1 k1 x.types) (h1' : TpL B' w a1' k1' x.types) (h2 : FnL B w a2 k2 x.funcs) (h2' : FnL B' w a2' k2' x.funcs) :
    Calls Try.prog 13 #[.agg #[.slice a1 x.types.length k1, .slice a2 x.funcs.length k2], .agg #[.slice a1' x.types.length k1', .slice a2' x.funcs.length k2']] w fun e w' => e = .returned (.bool true) ∧ w.grownBy w' none := by
  obtain ⟨W2, hW2⟩ : ∃ W2, W2 = (w.alloc (.cells #[.slice a1 x.types.length k1, .slice a2 x.funcs.length k2] 27)).alloc (.cells #[.slice a1' x.types.length k1', .slice a2' x.funcs.length k2'] 27) := ⟨_, rfl⟩
  have g2 : w.grownBy W2 none := by rw [hW2]; exact ga (World.grownBy_alloc _ _ _) _
  have K1 : ∀ j v, (#[.slice a1 x.types.length k1, .slice a2 x.funcs.length k2] : Array Value)[j]? = some v → W2.cell? ⟨w.heap.size, j, none⟩ = some v := fun j v hv => by rw [hW2]; exact (Ch.of (l := []) (World.grownBy_alloc _ _ _)).cell ((cells_new _ _ rfl _).trans hv) (by simp)
  have K2 : ∀ j v, (#[.slice a1' x.types.length k1', .slice a2' x.funcs.length k2'] : Array Value)[j]? = some v → W2.cell? ⟨w.heap.size + 1, j, none⟩ = some v := fun j v hv => by rw [hW2, ← hv]; exact cells_new _ _ (by simp) _
  have HC1 : Hid (∀ W, W2.grownBy W none → Calls Try.prog 31 #[.slice a1 x.types.length k1, .slice a1' x.types.length k1'] W fun e w' => e = .returned (.bool true) ∧ W.grownBy w' none) := fun W g => eqTypes_list _ _ _ _ _ _ _ _ (TpL.grow h1 (grown_trans g2 g)) (TpL.grow h1' (grown_trans g2 g))
  have HC2 : Hid (∀ W, W2.grownBy W none → Calls Try.prog 32 #[.slice a2 x.funcs.length k2, .slice a2' x.funcs.length k2'] W fun e w' => e = .returned (.bool true) ∧ W.grownBy w' none) := fun W g => eqFuncs_list _ _ _ _ _ _ _ _ (FnL.grow h2 (grown_trans g2 g)) (FnL.grow h2' (grown_trans g2 g))
  have HK : Hid (∀ W, W2.grownBy W none → W.cell? ⟨w.heap.size, 1, none⟩ = some (.slice a2 x.funcs.length k2) ∧ W.cell? ⟨w.heap.size + 1, 1, none⟩ = some (.slice a2' x.funcs.length k2')) := fun W g => ⟨g.cell (K1 1 _ rfl) (by simp), g.cell (K2 1 _ rfl) (by simp)⟩
  have HW2 : Hid (W2 = (w.alloc (.cells #[.slice a1 x.types.length k1, .slice a2 x.funcs.length k2] 27)).alloc (.cells #[.slice a1' x.types.length k1', .slice a2' x.funcs.length k2'] 27)) := hW2
  have HG : Hid (w.grownBy W2 none) := g2
  clear h1 h1' h2 h2' g2 hW2 K1 K2
  go_enter Try.func13, Try.ntmps13
  go_wp2_with (first
    | (go_at_call 31; rw [← HW2.out]; refine (HC1.out _ (World.grownBy.refl _ _)).mono ?_; rintro e w1 ⟨rfl, g⟩; have HG1 : Hid (W2.grownBy w1 none) := g; obtain ⟨c12, d12⟩ := HK.out w1 HG1.out; clear g HC1)
    | (go_at_call 32; refine (HC2.out _ HG1.out).mono ?_; rintro e w2 ⟨rfl, g⟩; have HG2 : Hid (W2.grownBy w2 none) := grown_trans HG1.out g; clear g HC2))
  go_ret
  exact ⟨rfl, grown_trans HG.out HG2.out⟩
end Go.Proofs.Ytljdjkiejppenaa
