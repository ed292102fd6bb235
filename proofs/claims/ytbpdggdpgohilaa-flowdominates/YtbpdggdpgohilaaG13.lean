/- Contracts and plain facts that the walks share. -/
import Derived.Test.YtbpdggdpgohilaaG12
import Derived.Test.YtbpdggdpgohilaaSaWs
import Derived.Test.YtbpdggdpgohilaaFlNw
import Derived.Test.YtbpdggdpgohilaaG8
namespace Go.Proofs.Ytbpdggdpgohilaa
open Go.RowKit
set_option linter.unusedVariables false
set_option maxRecDepth 100000
set_option maxHeartbeats 8000000
/-- what is wrong with blocks -/
def Sa.flowP (bs : List Sa.Bl) : Except Int Unit := do
  Sa.must (Sa.waysB bs) 130
  Sa.must (Sa.flowB bs) 131
theorem Sa.flowP_1 {bs : List Sa.Bl} (h : Sa.waysB bs = false) : Sa.flowP bs = .error 130 := by unfold Sa.flowP; rw [h]; rfl
theorem Sa.flowP_2 {bs : List Sa.Bl} (h : Sa.waysB bs = true) (h2 : Sa.flowB bs = false) : Sa.flowP bs = .error 131 := by unfold Sa.flowP; rw [h, h2]; rfl
theorem Sa.flowP_3 {bs : List Sa.Bl} (h : Sa.waysB bs = true) (h2 : Sa.flowB bs = true) : Sa.flowP bs = .ok () := by unfold Sa.flowP; rw [h, h2]; rfl
theorem saFlow1_any {N : Nat} {w : World} {bs : List Sa.Bl} {v1 v2 v3 : Value} {a4 : Option Addr} {k4 PB : Nat} (h : BlL (· < N) w a4 k4 bs) (hN : N ≤ w.heap.size) (hb : Bk w PB 28 [v1, v2, v3, .slice a4 bs.length k4]) : Calls Try.prog 36 #[.pointer (some ⟨PB, 0, none⟩)] w fun r w' => r = saX (Sa.flowP bs) ∧ w.grownBy w' none := by
  have HB : Hid (∀ W, w.grownBy W none → BlL (· < N) W a4 k4 bs) := fun W g => h.grow g
  have HW : Hid (Calls Try.prog 37 #[.slice a4 bs.length k4] w fun r w' => r = saE (Sa.waysB bs) 130 ∧ w.grownBy w' none) := saWays_any h
  have HK : Hid (∀ W, w.grownBy W none → W.cell? ⟨PB, 3, none⟩ = some (.slice a4 bs.length k4)) := fun W g => (hb.grow g).cell (i := 3) rfl
  have x0 := HK.out w (World.grownBy.refl _ _)
  obtain ⟨T, hT⟩ : ∃ T, T = Sa.flowP bs := ⟨_, rfl⟩
  have HT : Hid (T = Sa.flowP bs) := hT
  rw [← hT]
  clear hT h hb
  cases hw : Sa.waysB bs with
  | false =>
    have HR : Hid (T = .error 130) := by rw [HT.out]; exact Sa.flowP_1 hw
    rw [hw] at HW
    clear hw HT
    go_enter Try.func36, Try.ntmps36
    go_wp2_with (go_at_call 37; refine HW.out.mono ?_; rintro e w3 ⟨rfl, g3⟩; simp only [saE, cond_false])
    exact ⟨rfl, by rw [HR.out]; rfl, g3⟩
  | true =>
    have HWt : Hid (Sa.waysB bs = true) := hw
    rw [hw] at HW
    clear hw
    go_enter Try.func36, Try.ntmps36
    go_wp2_with fail
    refine HW.out.mono ?_
    rintro e w3 ⟨rfl, g3⟩
    simp only [saE, cond_true]
    have x3 := HK.out w3 g3
    have HG3 : Hid (w.grownBy w3 none) := g3
    clear x0 g3
    go_wp2_with fail
    refine (saWaysF_any (NN := N) (by have := HG3.out.size; omega) (HB.out _ HG3.out) HWt.out).mono ?_
    rintro e w4 (⟨hfl, rfl, g4⟩ | ⟨hfl, WB, QB, rfl, -, g4⟩)
    · have HR : Hid (T = .error 131) := by rw [HT.out]; exact Sa.flowP_2 HWt.out hfl
      clear hfl HT
      go_wp2_with fail
      exact ⟨rfl, by rw [HR.out]; rfl, grown_trans HG3.out g4⟩
    · have HR : Hid (T = .ok ()) := by rw [HT.out]; exact Sa.flowP_3 HWt.out hfl
      have HG4 : Hid (w.grownBy w4 none) := grown_trans HG3.out g4
      clear hfl HT g4
      go_wp2_with fail
      go_end0
      exact ⟨by rw [HR.out]; rfl, HG4.out⟩
/-- **ssa.Flow, whole.** -/
theorem saFlow_any {N : Nat} {w : World} {bs : List Sa.Bl} {v1 v2 v3 : Value} {a4 : Option Addr} {k4 : Nat} (h : BlL (· < N) w a4 k4 bs) (hN : N ≤ w.heap.size) : Calls Try.prog 27 #[.agg #[v1, v2, v3, .slice a4 bs.length k4]] w fun r w' => r = .returned (.int .i64 (Sa.num (Sa.flowP bs))) ∧ w.grownBy w' none := by
  have hg1 : w.grownBy (w.alloc (Obj.cells #[v1, v2, v3, .slice a4 bs.length k4] 28)) none := World.grownBy_alloc _ _ _
  have hg2 : (w.alloc (Obj.cells #[v1, v2, v3, .slice a4 bs.length k4] 28)).grownBy ((w.alloc (Obj.cells #[v1, v2, v3, .slice a4 bs.length k4] 28)).alloc (Obj.cells #[.int .i64 0] 32)) none := World.grownBy_alloc _ _ _
  have hb : Bk (w.alloc (Obj.cells #[v1, v2, v3, .slice a4 bs.length k4] 28)) w.heap.size 28 [v1, v2, v3, .slice a4 bs.length k4] := Bk.new _ _ _
  have HO : Hid (Calls Try.prog 35 #[.func (.func 36) #[] #[.pointer (some ⟨w.heap.size, 0, none⟩)]] (w.alloc (Obj.cells #[v1, v2, v3, .slice a4 bs.length k4] 28)) fun e w' => e = .returned (.int .i64 (Sa.num (Sa.flowP bs))) ∧ (w.alloc (Obj.cells #[v1, v2, v3, .slice a4 bs.length k4] 28)).grownBy w' none) :=
    saOfF (saFlow1_any (h.grow (grown_trans hg1 hg2)) (by have := (grown_trans hg1 hg2).size; omega) (hb.grow hg2))
  have HG : Hid (w.grownBy (w.alloc (Obj.cells #[v1, v2, v3, .slice a4 bs.length k4] 28)) none) := hg1
  have hmf : ∀ (fn : Fn) (first cap : Array Value) (w : World), (Instr.makeFunc fn first cap).run Try.prog w = .ok (.func fn first cap) w := fun _ _ _ _ => rfl
  generalize Sa.num (Sa.flowP bs) = R at *
  clear hg1 hg2 hb h
  go_enter Try.func27, Try.ntmps27
  go_wp2_with (go_at_call 35; refine HO.out.mono ?_; rintro e w3 ⟨rfl, g3⟩)
  exact ⟨rfl, _, by simp [results, Try.results27, go_sem], rfl, grown_trans HG.out g3⟩
theorem flPostorder_any {NN : Nat} {bs : List Sa.Bl} {w : World} {a : Option Addr} {k : Nat} (hN : NN ≤ w.heap.size) (h : BlL (· < NN) w a k bs) (hw : Sa.waysB bs = true) : Calls Try.prog 26 #[.slice a bs.length k] w fun r w' => ∃ v, r = .returned v ∧ OwnZ w' w.heap.size v (Sa.fwalk bs).2 ∧ w.grownBy w' none := by
  obtain ⟨h0, h4, _⟩ := Sa.waysB_iff hw
  have HW : Hid (Calls Try.prog 28 #[.slice a bs.length k] w fun r w' => ∃ PB BX FB WB SB RB, r = .returned (.pointer (some ⟨WB, 0, none⟩)) ∧ FwAt w.heap.size w' PB BX FB WB SB RB bs.length a k (Sa.fwalk bs).1 (Sa.fwalk bs).2 ∧ w.grownBy w' none) := flNewWalk_any hN h (Sa.leads hw) h0 h4
  clear h hw
  go_enter Try.func26, Try.ntmps26
  go_wp2_with (go_at_call 28; refine HW.out.mono ?_; rintro e w3 ⟨PB, BX, FB, WB, SB, RB, rfl, ⟨mv, pv, qv, r, hL⟩, g3⟩; have y2 := hL.w.cell (i := 2) rfl; have HQ : Hid (OwnZ w3 w.heap.size qv (Sa.fwalk bs).2) := hL.q; have HG : Hid (w.grownBy w3 none) := g3; clear hL g3)
  refine bodyPost_ret (by simp [results, Try.results26, go_sem]; try rfl) rfl ?_
  exact ⟨qv, rfl, HQ.out, HG.out⟩
theorem flTold_any {N : Nat} {w : World} {bs : List Sa.Bl} {v1 v2 v3 : Value} {a4 : Option Addr} {k4 : Nat} (h : BlL (· < N) w a4 k4 bs) (hN : N ≤ w.heap.size) : Calls Try.prog 16 #[.agg #[v1, v2, v3, .slice a4 bs.length k4], .func (.func 26) #[] #[]] w fun r w' => ∃ v, r = .returned (.tuple #[v, .int .i64 (Sa.num (Sa.flowP bs))]) ∧ (Sa.num (Sa.flowP bs) = 0 → Sa.waysB bs = true ∧ Sa.flowB bs = true ∧ OwnZ w' w.heap.size v (Sa.fwalk bs).2) ∧ (Sa.num (Sa.flowP bs) ≠ 0 → v = .slice none 0 0) ∧ w.grownBy w' none := by
  have hg1 : w.grownBy (w.alloc (Obj.cells #[v1, v2, v3, .slice a4 bs.length k4] 28)) none := World.grownBy_alloc _ _ _
  have HG1 : Hid (w.grownBy (w.alloc (Obj.cells #[v1, v2, v3, .slice a4 bs.length k4] 28)) none) := hg1
  have HK1 : Hid (∀ W, (w.alloc (Obj.cells #[v1, v2, v3, .slice a4 bs.length k4] 28)).grownBy W none → W.cell? ⟨w.heap.size, 3, none⟩ = some (.slice a4 bs.length k4)) := fun W g => ((Bk.new w 28 [v1, v2, v3, .slice a4 bs.length k4]).grow g).cell (i := 3) rfl
  have HF : Hid (Calls Try.prog 27 #[.agg #[v1, v2, v3, .slice a4 bs.length k4]] (w.alloc (Obj.cells #[v1, v2, v3, .slice a4 bs.length k4] 28)) fun r w' => r = .returned (.int .i64 (Sa.num (Sa.flowP bs))) ∧ (w.alloc (Obj.cells #[v1, v2, v3, .slice a4 bs.length k4] 28)).grownBy w' none) := saFlow_any (h.grow hg1) (by have := hg1.size; omega)
  have HB : Hid (∀ W, w.grownBy W none → BlL (· < N) W a4 k4 bs) := fun W g => h.grow g
  have HN : Hid (N ≤ w.heap.size) := hN
  by_cases hz : Sa.num (Sa.flowP bs) = 0
  · have hb : Sa.waysB bs = true ∧ Sa.flowB bs = true := by
      cases h1 : Sa.waysB bs with
      | false => rw [Sa.flowP_1 h1] at hz; simp [Sa.num] at hz
      | true =>
        cases h2 : Sa.flowB bs with
        | false => rw [Sa.flowP_2 h1 h2] at hz; simp [Sa.num] at hz
        | true => exact ⟨rfl, rfl⟩
    have HBb : Hid (Sa.waysB bs = true ∧ Sa.flowB bs = true) := hb
    rw [hz] at HF ⊢
    clear hb hz h hg1 hN
    go_enter Try.func16, Try.ntmps16
    go_wp2_with (first
      | (go_at_call 27; refine HF.out.mono ?_; rintro e w3 ⟨rfl, g3⟩; have y3 := HK1.out w3 g3; have HG3 : Hid (w.grownBy w3 none) := grown_trans HG1.out g3; clear g3)
      | (go_at_call 26; refine (flPostorder_any (NN := N) (by have := HN.out; have := HG3.out.size; omega) (HB.out w3 HG3.out) HBb.out.1).mono ?_; rintro e w4 ⟨v, rfl, hv, g4⟩; have HV : Hid (OwnZ w4 w3.heap.size v (Sa.fwalk bs).2) := hv; have HG4 : Hid (w.grownBy w4 none) := grown_trans HG3.out g4; clear hv g4))
    refine bodyPost_ret (by simp [results, Try.results16, go_sem]; try rfl) rfl ?_
    exact ⟨v, rfl, fun _ => ⟨HBb.out.1, HBb.out.2, World.ownsRow.mono HV.out HG3.out.size⟩, fun h9 => absurd rfl h9, HG4.out⟩
  · have hzb : (Sa.num (Sa.flowP bs) != 0) = true := by simp [hz]
    have HZ : Hid (¬ Sa.num (Sa.flowP bs) = 0) := hz
    generalize Sa.num (Sa.flowP bs) = R at *
    clear hz h hg1 hN
    go_enter Try.func16, Try.ntmps16
    go_wp2_with (go_at_call 27; refine HF.out.mono ?_; rintro e w3 ⟨rfl, g3⟩; have HG3 : Hid (w.grownBy w3 none) := grown_trans HG1.out g3; clear g3)
    refine bodyPost_ret (by simp [results, Try.results16, go_sem]; try rfl) rfl ?_
    exact ⟨_, rfl, fun h9 => absurd h9 HZ.out, fun _ => rfl, HG3.out⟩
/-- **flow.Post, whole.** -/
theorem flPost_any {N : Nat} {w : World} {bs : List Sa.Bl} {v1 v2 v3 : Value} {a4 : Option Addr} {k4 : Nat} (h : BlL (· < N) w a4 k4 bs) (hN : N ≤ w.heap.size) : Calls Try.prog 14 #[.agg #[v1, v2, v3, .slice a4 bs.length k4]] w fun r w' => ∃ v, r = .returned (.tuple #[v, .int .i64 (Sa.num (Sa.flowP bs))]) ∧ (Sa.num (Sa.flowP bs) = 0 → Sa.waysB bs = true ∧ Sa.flowB bs = true ∧ OwnZ w' w.heap.size v (Sa.fwalk bs).2) ∧ (Sa.num (Sa.flowP bs) ≠ 0 → v = .slice none 0 0) ∧ w.grownBy w' none := by
  have hg1 : w.grownBy (w.alloc (Obj.cells #[v1, v2, v3, .slice a4 bs.length k4] 28)) none := World.grownBy_alloc _ _ _
  have HG1 : Hid (w.grownBy (w.alloc (Obj.cells #[v1, v2, v3, .slice a4 bs.length k4] 28)) none) := hg1
  have HT : Hid (Calls Try.prog 16 #[.agg #[v1, v2, v3, .slice a4 bs.length k4], .func (.func 26) #[] #[]] (w.alloc (Obj.cells #[v1, v2, v3, .slice a4 bs.length k4] 28)) fun r w' => ∃ v, r = .returned (.tuple #[v, .int .i64 (Sa.num (Sa.flowP bs))]) ∧ (Sa.num (Sa.flowP bs) = 0 → Sa.waysB bs = true ∧ Sa.flowB bs = true ∧ OwnZ w' (w.alloc (Obj.cells #[v1, v2, v3, .slice a4 bs.length k4] 28)).heap.size v (Sa.fwalk bs).2) ∧ (Sa.num (Sa.flowP bs) ≠ 0 → v = .slice none 0 0) ∧ (w.alloc (Obj.cells #[v1, v2, v3, .slice a4 bs.length k4] 28)).grownBy w' none) := flTold_any (h.grow hg1) (by have := hg1.size; omega)
  generalize Sa.num (Sa.flowP bs) = R at *
  clear hg1 h hN
  go_enter Try.func14, Try.ntmps14
  go_wp2_with (go_at_call 16; refine HT.out.mono ?_; rintro e w3 ⟨v, rfl, h1, h2, g3⟩; have H1 : Hid (R = 0 → Sa.waysB bs = true ∧ Sa.flowB bs = true ∧ OwnZ w3 (w.alloc (Obj.cells #[v1, v2, v3, .slice a4 bs.length k4] 28)).heap.size v (Sa.fwalk bs).2) := h1; have H2 : Hid (R ≠ 0 → v = .slice none 0 0) := h2; have HG3 : Hid (w.grownBy w3 none) := grown_trans HG1.out g3; clear h1 h2 g3)
  refine bodyPost_ret (by simp [results, Try.results14, go_sem]; try rfl) rfl ?_
  exact ⟨v, rfl, fun h9 => ⟨(H1.out h9).1, (H1.out h9).2.1, World.ownsRow.mono (H1.out h9).2.2 HG1.out.size⟩, H2.out, HG3.out⟩
theorem flHole_any (kd : Int) (x1 x2 x3 x4 x5 : Value) (w : World) : Calls Try.prog 11 #[.agg #[.int .i64 kd, x1, x2, x3, x4, x5]] w fun r w' => r = .returned (.bool (kd == 0)) ∧ w.grownBy w' none := by
  have HG : Hid (w.grownBy (w.alloc (Obj.cells #[.int .i64 kd, x1, x2, x3, x4, x5] 41)) none) := World.grownBy_alloc _ _ _
  have x0 := (Bk.new w 41 [.int .i64 kd, x1, x2, x3, x4, x5]).cell (i := 0) rfl
  go_enter Try.func11, Try.ntmps11
  go_wp2_with fail
  refine bodyPost_ret (by simp [results, Try.results11, go_sem]; try rfl) rfl ?_
  exact ⟨rfl, HG.out⟩
theorem flCount_any {B : Nat → Prop} {w : World} {a : Option Addr} {k : Nat} {l : List Int} (h : NumL B w a k l) (x : Int) : Calls Try.prog 23 #[.slice a l.length k, .int .i64 x] w fun r w' => (∃ z, r = .returned (.int .i64 z)) ∧ w.grownBy w' none := by
  have HL : Hid (∀ W, w.grownBy W none → NumL B W a k l) := fun W g => h.grow1 g
  have hle := h.le
  have hmx := h.max
  unfold maxLen at hmx
  clear h
  go_enter Try.func23, Try.ntmps23
  go_wp2_with fail
  go_loopw [5, 6] (fun nv iv wr => ∃ (i : Nat) (z : Int), nv = .int .i64 z ∧ iv = .int .i64 i ∧ i ≤ l.length ∧ w.grownBy wr none) (fun _ iv _ => l.length - (intOf iv).toNat)
  case atStart => exact ⟨0, 0, rfl, rfl, Nat.zero_le _, World.grownBy.refl _ _⟩
  case round =>
    obtain ⟨i, z, rfl, rfl, hi, hg⟩ := hrel
    have HG : Hid (w.grownBy wr none) := hg
    clear hg
    by_cases hil : i < l.length
    case neg =>
      have c1 : ¬ (i : Int) < (l.length : Int) := by omega
      have c2 : decide ((i : Int) < (l.length : Int)) = false := decide_eq_false c1
      go_wp2_with fail
      refine bodyPost_ret (by simp [results, Try.results23, go_sem]; try rfl) rfl ?_
      exact ⟨⟨z, rfl⟩, HG.out⟩
    have c1 : (i : Int) < (l.length : Int) := by omega
    obtain ⟨b, o, rfl, _, hz⟩ := (HL.out wr HG.out).at hil
    unfold NumQ at hz
    rw [Nat.mul_one] at hz
    generalize l[i] = y at *
    by_cases e : y = x
    · subst e
      go_wp2_with fail
      go_roundw
      case rel => exact ⟨i + 1, _, rfl, by go_num, by omega, HG.out⟩
      case measure => simp [intOf]; omega
    · have c3 : (y == x) = false := by simpa using e
      go_wp2_with fail
      go_roundw
      case rel => exact ⟨i + 1, z, rfl, by go_num, by omega, HG.out⟩
      case measure => simp [intOf]; omega
theorem flNum (e : Int) (w : World) : Calls Try.prog 8 #[.int .i64 e] w fun r w' => r = .returned (.int .i64 e) ∧ w.grownBy w' none := by
  go_enter Try.func8, Try.ntmps8
  go_wp2
  refine bodyPost_ret (by simp [results, Try.results8, go_sem]; try rfl) rfl ?_
  exact ⟨rfl, World.grownBy.refl _ _⟩
theorem flEqN (l : List Int) {B B' : Nat → Prop} {w : World} {a a' : Option Addr} {c c' : Nat} (h : NumL B w a c l) (h' : NumL B' w a' c' l) : Calls Try.prog 25 #[.slice a l.length c, .slice a' l.length c'] w fun e w' => e = .returned (.bool true) ∧ w.grownBy w' none := by
  have hle := h.le
  have hmx := h.max
  have hle' := h'.le
  have hmx' := h'.max
  unfold maxLen at hmx hmx'
  have H1 : Hid (∀ W, w.grownBy W none → NumL B W a c l) := fun W g => h.grow1 g
  have H2 : Hid (∀ W, w.grownBy W none → NumL B' W a' c' l) := fun W g => h'.grow1 g
  clear h h'
  go_enter Try.func25, Try.ntmps25
  go_wp2_with fail
  go_loopw [5] (fun ix wr => ∃ k : Nat, ix = .int .i64 k ∧ k ≤ l.length ∧ w.grownBy wr none) (fun ix _ => l.length - (intOf ix).toNat)
  case atStart => exact ⟨0, rfl, Nat.zero_le _, World.grownBy.refl _ _⟩
  case round =>
    obtain ⟨k, rfl, hk, hg⟩ := hrel
    have HG : Hid (w.grownBy wr none) := hg
    by_cases hkn : k < l.length
    case neg =>
      have c1 : ¬ (k : Int) < (l.length : Int) := by omega
      have c2 : decide ((k : Int) < (l.length : Int)) = false := decide_eq_false c1
      clear hg
      go_wp2_with fail
      refine bodyPost_ret (by simp [results, Try.results25, go_sem]; try rfl) rfl ?_
      exact ⟨rfl, HG.out⟩
    have hkn' : (k : Int) < l.length := by omega
    obtain ⟨b1, o1, rfl, _, c1⟩ := (H1.out wr hg).at hkn
    obtain ⟨b2, o2, rfl, _, c2⟩ := (H2.out wr hg).at hkn
    unfold NumQ at c1 c2
    rw [Nat.mul_one] at c1 c2
    generalize l[k] = y at *
    clear hg
    go_wp2_with fail
    go_quiet (fail)
    have HD : Hid (wr.grownBy (wr.drewN nq) none) := grown_drewN (World.grownBy.refl _ none) nq
    go_wp2_with fail
    go_roundw
    case rel => exact ⟨k + 1, by go_num, by omega, grown_trans HG.out HD.out⟩
    case measure => simp [intOf]; omega
theorem Bk.newE {w : World} {B : Nat} {t : TypeId} {l : List Value} (h : B = w.heap.size) : Bk (w.alloc (.cells l.toArray t)) B t l := by rw [h]; exact Bk.new _ _ _
theorem numL_two {W : World} {b : Nat} {x y : Int} {B : Nat → Prop} (hB : B b) (h : Bk W b 3 [.int .i64 x, .int .i64 y]) : NumL B W (some ⟨b, 0, none⟩) 2 [x, y] :=
  ⟨fun e => (by cases e), Nat.le_refl _, by unfold maxLen; omega, by unfold reachBytes; simp, .inr ⟨b, 0, rfl, hB, fun i z hz => by
    unfold NumQ
    match i, hz with
    | 0, hz => injection hz with hz; subst hz; exact h.cell (i := 0) rfl
    | 1, hz => injection hz with hz; subst hz; exact h.cell (i := 1) rfl
    | n + 2, hz => simp at hz⟩⟩
theorem numL_one {W : World} {b : Nat} {x : Int} {B : Nat → Prop} (hB : B b) (h : Bk W b 3 [.int .i64 x]) : NumL B W (some ⟨b, 0, none⟩) 1 [x] :=
  ⟨fun e => (by cases e), Nat.le_refl _, by unfold maxLen; omega, by unfold reachBytes; simp, .inr ⟨b, 0, rfl, hB, fun i z hz => by
    unfold NumQ
    match i, hz with
    | 0, hz => injection hz with hz; subst hz; exact h.cell (i := 0) rfl
    | n + 1, hz => simp at hz⟩⟩
theorem numL_nil {W : World} {B : Nat → Prop} : NumL B W none 0 [] := ⟨fun _ => ⟨rfl, rfl⟩, Nat.le_refl _, by unfold maxLen; omega, by simp, .inl rfl⟩
def Sa.fw1 : Sa.Bl := ⟨3, 0, [1, 0], [], [], [0, 1]⟩
theorem fwSmall (w : World) : Calls Try.prog 24 #[.int .i64 3] w fun r w' => ∃ CB BB v1 v2 v3, r = .returned (.agg #[.slice (some ⟨CB, 0, none⟩) 1 1, .slice none 0 0]) ∧ Bk w' CB 28 [v1, v2, v3, .slice (some ⟨BB, 0, none⟩) 1 1] ∧ BlL (· < w'.heap.size) w' (some ⟨BB, 0, none⟩) 1 [Sa.fw1] ∧ w.grownBy w' none := by
  obtain ⟨n, hn⟩ : ∃ n, n = w.heap.size := ⟨_, rfl⟩
  obtain ⟨w1, e1⟩ : ∃ x, x = w.alloc (Obj.cells #[.slice (some ⟨n + 1 + 1 + 1 + 1 + 1 + 1, 0, none⟩) 1 1, .slice none 0 0] 31) := ⟨_, rfl⟩
  obtain ⟨w2, e2⟩ : ∃ x, x = w1.alloc (Obj.cells #[.int .i64 5] 3) := ⟨_, rfl⟩
  obtain ⟨w3, e3⟩ : ∃ x, x = w2.alloc (Obj.cells #[.int .i64 9, .int .i64 12, .slice none 0 0, .int .i64 0, .int .i64 0, .int .i64 1, .int .i64 5, .slice none 0 0, .int .i64 3, .int .i64 0] 48) := ⟨_, rfl⟩
  obtain ⟨w4, e4⟩ : ∃ x, x = w3.alloc (Obj.cells #[.int .i64 1, .int .i64 0] 3) := ⟨_, rfl⟩
  obtain ⟨w5, e5⟩ : ∃ x, x = w4.alloc (Obj.cells #[.int .i64 0, .int .i64 1] 3) := ⟨_, rfl⟩
  obtain ⟨w6, e6⟩ : ∃ x, x = w5.alloc (Obj.cells #[.int .i64 3, .int .i64 0, .slice (some ⟨n + 1 + 1 + 1, 0, none⟩) 2 2, .slice none 0 0, .slice none 0 0, .slice (some ⟨n + 1 + 1 + 1 + 1, 0, none⟩) 2 2] 41) := ⟨_, rfl⟩
  obtain ⟨w7, e7⟩ : ∃ x, x = w6.alloc (Obj.cells #[.slice none 0 0, .slice (some ⟨n + 1, 0, none⟩) 1 1, .slice (some ⟨n + 1 + 1, 0, none⟩) 2 2, .slice (some ⟨n + 1 + 1 + 1 + 1 + 1, 0, none⟩) 1 1] 28) := ⟨_, rfl⟩
  have s1 : w1.heap.size = n + 1 := by rw [e1, hn]; simp
  have s2 : w2.heap.size = n + 1 + 1 := by rw [e2, ← s1]; simp
  have s3 : w3.heap.size = n + 1 + 1 + 1 := by rw [e3, ← s2]; simp
  have s4 : w4.heap.size = n + 1 + 1 + 1 + 1 := by rw [e4, ← s3]; simp
  have s5 : w5.heap.size = n + 1 + 1 + 1 + 1 + 1 := by rw [e5, ← s4]; simp
  have s6 : w6.heap.size = n + 1 + 1 + 1 + 1 + 1 + 1 := by rw [e6, ← s5]; simp
  have s7 : w7.heap.size = n + 1 + 1 + 1 + 1 + 1 + 1 + 1 := by rw [e7, ← s6]; simp
  have g1 : w.grownBy w1 none := by rw [e1]; exact World.grownBy_alloc _ _ _
  have g2 : w1.grownBy w2 none := by rw [e2]; exact World.grownBy_alloc _ _ _
  have g3 : w2.grownBy w3 none := by rw [e3]; exact World.grownBy_alloc _ _ _
  have g4 : w3.grownBy w4 none := by rw [e4]; exact World.grownBy_alloc _ _ _
  have g5 : w4.grownBy w5 none := by rw [e5]; exact World.grownBy_alloc _ _ _
  have g6 : w5.grownBy w6 none := by rw [e6]; exact World.grownBy_alloc _ _ _
  have g7 : w6.grownBy w7 none := by rw [e7]; exact World.grownBy_alloc _ _ _
  have k1 : Bk w1 n 31 [.slice (some ⟨n + 1 + 1 + 1 + 1 + 1 + 1, 0, none⟩) 1 1, .slice none 0 0] := by rw [e1]; exact Bk.newE hn
  have k4 : Bk w4 (n + 1 + 1 + 1) 3 [.int .i64 1, .int .i64 0] := by rw [e4]; exact Bk.newE s3.symm
  have k5 : Bk w5 (n + 1 + 1 + 1 + 1) 3 [.int .i64 0, .int .i64 1] := by rw [e5]; exact Bk.newE s4.symm
  have k6 : Bk w6 (n + 1 + 1 + 1 + 1 + 1) 41 [.int .i64 3, .int .i64 0, .slice (some ⟨n + 1 + 1 + 1, 0, none⟩) 2 2, .slice none 0 0, .slice none 0 0, .slice (some ⟨n + 1 + 1 + 1 + 1, 0, none⟩) 2 2] := by rw [e6]; exact Bk.newE s5.symm
  have k7 : Bk w7 (n + 1 + 1 + 1 + 1 + 1 + 1) 28 [.slice none 0 0, .slice (some ⟨n + 1, 0, none⟩) 1 1, .slice (some ⟨n + 1 + 1, 0, none⟩) 2 2, .slice (some ⟨n + 1 + 1 + 1 + 1 + 1, 0, none⟩) 1 1] := by rw [e7]; exact Bk.newE s6.symm
  have K1 := k1.grow (grown_trans g2 (grown_trans g3 (grown_trans g4 (grown_trans g5 (grown_trans g6 g7)))))
  have K4 := k4.grow (grown_trans g5 (grown_trans g6 g7))
  have K5 := k5.grow (grown_trans g6 g7)
  have K6 := k6.grow g7
  have HG : Hid (w.grownBy w7 none) := grown_trans g1 (grown_trans g2 (grown_trans g3 (grown_trans g4 (grown_trans g5 (grown_trans g6 g7)))))
  have HE : Hid (BlL (· < w7.heap.size) w7 (some ⟨n + 1 + 1 + 1 + 1 + 1, 0, none⟩) 1 [Sa.fw1]) := ⟨fun e => (by cases e), Nat.le_refl _, by unfold maxLen; omega, by unfold reachBytes; simp, .inr ⟨_, 0, rfl, K6.lt, fun i z hz => by
    match i, hz with
    | 0, hz =>
      injection hz with hz
      subst hz
      exact ⟨_, none, none, _, 2, 0, 0, 2, K6.cell (i := 0) rfl, K6.cell (i := 1) rfl, K6.cell (i := 2) rfl, K6.cell (i := 3) rfl, K6.cell (i := 4) rfl, K6.cell (i := 5) rfl, numL_two K4.lt K4, numL_nil, numL_nil, numL_two K5.lt K5, by unfold R64; show _ ≤ (0 : Int) ∧ (0 : Int) ≤ _; omega⟩
    | n + 1, hz => simp at hz⟩⟩
  have HK7 : Hid (Bk w7 (n + 1 + 1 + 1 + 1 + 1 + 1) 28 [.slice none 0 0, .slice (some ⟨n + 1, 0, none⟩) 1 1, .slice (some ⟨n + 1 + 1, 0, none⟩) 2 2, .slice (some ⟨n + 1 + 1 + 1 + 1 + 1, 0, none⟩) 1 1]) := k7
  have x0 := K1.cell (i := 0) rfl
  have x1 := K1.cell (i := 1) rfl
  have HEq : Hid (w1 = _ ∧ w2 = _ ∧ w3 = _ ∧ w4 = _ ∧ w5 = _ ∧ w6 = _ ∧ w7 = _) := ⟨e1, e2, e3, e4, e5, e6, e7⟩
  have HN : Hid (n = w.heap.size) := hn
  clear e1 e2 e3 e4 e5 e6 e7 s1 s2 s3 s4 s5 s6 s7 g1 g2 g3 g4 g5 g6 g7 k1 k4 k5 k6 k7 K1 K4 K5 K6 hn
  go_enter Try.func24, Try.ntmps24
  go_wp2
  obtain ⟨e1, e2, e3, e4, e5, e6, e7⟩ := HEq.out
  rw [← HN.out, ← e1, ← e2, ← e3, ← e4, ← e5, ← e6, ← e7]
  refine bodyPost_ret (by simp [results, Try.results24, go_sem, x0, x1]; try rfl) rfl ?_
  exact ⟨_, _, _, _, _, rfl, HK7.out, HE.out, HG.out⟩
theorem Sa.fw1_flow : Sa.num (Sa.flowP [Sa.fw1]) = 0 ∧ (Sa.fwalk [Sa.fw1]).2 = [0] := by
  constructor
  · have h1 : Sa.waysB [Sa.fw1] = true := by rfl
    have h2 : Sa.flowB [Sa.fw1] = true := by
      unfold Sa.flowB
      simp [Sa.fw1, Sa.isSame, Sa.comes, Sa.exits, Sa.walk, Sa.visit, Sa.visits, Sa.Wk.on, setF, List.range, List.range.loop]
    rw [Sa.flowP_3 h1 h2]
    rfl
  · unfold Sa.fwalk
    simp [Sa.fvisit, Sa.fvisits, Sa.fw1]
theorem field_codes (v1 v2 : Value) (w : World) : (Instr.field 31 (.agg #[v1, v2]) 0).run Try.prog w = .ok v1 w := by kernel_rfl
theorem fwWakes (w : World) : Calls Try.prog 13 #[] w fun r w' => r = .returned (.bool true) ∧ w.grownBy w' none := by
  have HS : Hid (Calls Try.prog 24 #[.int .i64 3] w fun r w' => ∃ CB BB v1 v2 v3, r = .returned (.agg #[.slice (some ⟨CB, 0, none⟩) 1 1, .slice none 0 0]) ∧ Bk w' CB 28 [v1, v2, v3, .slice (some ⟨BB, 0, none⟩) 1 1] ∧ BlL (· < w'.heap.size) w' (some ⟨BB, 0, none⟩) 1 [Sa.fw1] ∧ w.grownBy w' none) := fwSmall w
  go_enter Try.func13, Try.ntmps13
  go_wp2_with fail
  refine HS.out.mono ?_
  rintro e w2 ⟨CB, BB, v1, v2, v3, rfl, hk, hb, g2⟩
  have HG2 : Hid (w.grownBy w2 none) := g2
  have y0 := hk.cell (i := 0) rfl
  have y1 := hk.cell (i := 1) rfl
  have y2 := hk.cell (i := 2) rfl
  have y3 := hk.cell (i := 3) rfl
  have hlt := hk.lt
  have HP : Hid (Calls Try.prog 14 #[.agg #[v1, v2, v3, .slice (some ⟨BB, 0, none⟩) 1 1]] w2 fun r w' => ∃ v, r = .returned (.tuple #[v, .int .i64 0]) ∧ OwnZ w' w2.heap.size v [0] ∧ w2.grownBy w' none) := (flPost_any (v1 := v1) (v2 := v2) (v3 := v3) hb (Nat.le_refl _)).mono (by
    rintro r w' ⟨v, rfl, h1, _, h3⟩
    rw [Sa.fw1_flow.1] at h1 ⊢
    have h4 := h1 rfl
    rw [Sa.fw1_flow.2] at h4
    exact ⟨v, rfl, h4.2.2, h3⟩)
  clear hk hb g2
  have HF := field_codes (.slice (some ⟨CB, 0, none⟩) 1 1) (.slice none 0 0) w2
  go_wp2_with fail
  refine HP.out.mono ?_
  rintro e w3 ⟨v, rfl, hz, g3⟩
  have HG3 : Hid (w.grownBy w3 none) := grown_trans HG2.out g3
  obtain ⟨a, c, rfl, hv⟩ := hz.numL (by simp)
  have HEq : Hid (∀ W, w3.grownBy W none → Calls Try.prog 25 #[.slice a 1 c, .slice (some ⟨W.heap.size, 0, none⟩) 1 1] (W.alloc (Obj.cells #[.int .i64 0] 3)) fun e w' => e = .returned (.bool true) ∧ (W.alloc (Obj.cells #[.int .i64 0] 3)).grownBy w' none) := fun W g => flEqN [0] (hv.grow1 (grown_trans g (World.grownBy_alloc _ _ _))) (numL_one (B := fun _ => True) trivial (Bk.new _ _ _))
  have HNm : Hid (∀ W, Calls Try.prog 8 #[.int .i64 0] W fun r w' => r = .returned (.int .i64 0) ∧ W.grownBy w' none) := fun W => flNum 0 W
  clear g3 hz hv y0 y1 y2 y3 HS HP
  go_wp2_with fail
  refine (HNm.out _).mono ?_
  rintro e w4 ⟨rfl, g4⟩
  have HC := HEq.out w4 g4
  have HG4 : Hid (w.grownBy (w4.alloc (Obj.cells #[.int .i64 0] 3)) none) := grown_trans HG3.out (grown_trans g4 (World.grownBy_alloc _ _ _))
  clear g4
  go_wp2_with fail
  refine HC.mono ?_
  rintro e w5 ⟨rfl, g5⟩
  have HG5 : Hid (w.grownBy w5 none) := grown_trans HG4.out g5
  clear g5
  go_wp2_with fail
  refine bodyPost_ret (by simp [results, Try.results13, go_sem]; try rfl) rfl ?_
  exact ⟨rfl, HG5.out⟩
theorem flNumbers_any {N : Nat} {w : World} {bs : List Sa.Bl} {v1 v2 v3 : Value} {a a2 : Option Addr} {k k2 : Nat} {l : List Int} (h : BlL (· < N) w a k bs) (hl : NumL (· < N) w a2 k2 l) (hN : N ≤ w.heap.size) (hb : Sa.areBlks bs l = true) : Calls Try.prog 34 #[.agg #[v1, v2, v3, .slice a bs.length k], .slice a2 l.length k2] w fun r w' => r = .returned (.bool true) ∧ w.grownBy w' none := by
  have HB : Hid (∀ W, w.grownBy W none → BlL (· < N) W a k bs) := fun W g => h.grow g
  have HL : Hid (∀ W, w.grownBy W none → NumL (· < N) W a2 k2 l) := fun W g => hl.grow1 g
  have HG1 : Hid (w.grownBy (w.alloc (Obj.cells #[v1, v2, v3, .slice a bs.length k] 28)) none) := World.grownBy_alloc _ _ _
  have HK1 : Hid (∀ W, (w.alloc (Obj.cells #[v1, v2, v3, .slice a bs.length k] 28)).grownBy W none → W.cell? ⟨w.heap.size, 3, none⟩ = some (.slice a bs.length k)) := fun W g => ((Bk.new w 28 [v1, v2, v3, .slice a bs.length k]).grow g).cell (i := 3) rfl
  have HAr : Hid (∀ i, (hi : i < l.length) → 0 ≤ l[i] ∧ l[i] < (bs.length : Int) ∧ (bs.getD (l[i]).toNat Sa.bl0).kind ≠ 0) := fun i hi => by
    have h9 := List.all_eq_true.1 hb l[i] (List.getElem_mem hi)
    unfold Sa.isBlk at h9
    rw [Bool.and_eq_true, Sa.isNum_iff, bne_iff_ne] at h9
    exact ⟨h9.1.1, h9.1.2, h9.2⟩
  have hle := hl.le
  have hmx := hl.max
  have hle2 := h.le
  have hmx2 := h.max
  unfold maxLen at hmx hmx2
  clear h hl hN hb
  obtain ⟨w1, hw1⟩ : ∃ w1, w1 = w.alloc (Obj.cells #[v1, v2, v3, .slice a bs.length k] 28) := ⟨_, rfl⟩
  rw [← hw1] at HG1 HK1
  have HW1 : Hid (w1 = w.alloc (Obj.cells #[v1, v2, v3, .slice a bs.length k] 28)) := hw1
  clear hw1
  go_enter Try.func34, Try.ntmps34
  go_wp2_with fail
  rw [← HW1.out]
  obtain ⟨CB, hCB⟩ : ∃ CB, CB = w.heap.size := ⟨_, rfl⟩
  rw [← hCB] at HK1 ⊢
  clear hCB
  go_loopw [5] (fun iv wr => ∃ (i : Nat), iv = .int .i64 i ∧ i ≤ l.length ∧ w1.grownBy wr none) (fun iv _ => l.length - (intOf iv).toNat)
  case atStart => exact ⟨0, rfl, Nat.zero_le _, World.grownBy.refl _ _⟩
  case round =>
    obtain ⟨i, rfl, hi, hg⟩ := hrel
    have HG : Hid (w1.grownBy wr none) := hg
    have HGw : Hid (w.grownBy wr none) := grown_trans HG1.out hg
    clear hg
    by_cases hil : i < l.length
    case neg =>
      have c1 : ¬ (i : Int) < (l.length : Int) := by omega
      have c2 : decide ((i : Int) < (l.length : Int)) = false := decide_eq_false c1
      go_wp2_with fail
      refine bodyPost_ret (by simp [results, Try.results34, go_sem]; try rfl) rfl ?_
      exact ⟨rfl, HGw.out⟩
    have c1 : (i : Int) < (l.length : Int) := by omega
    obtain ⟨b, o, rfl, _, hz⟩ := (HL.out wr HGw.out).at hil
    unfold NumQ at hz
    rw [Nat.mul_one] at hz
    obtain ⟨y0, y1, y2⟩ := HAr.out i hil
    obtain ⟨y, hy⟩ : ∃ y : Nat, l[i] = (y : Int) := ⟨(l[i]).toNat, by omega⟩
    rw [hy, Int.toNat_natCast] at y2
    have hyb : y < bs.length := by omega
    have hyI : (y : Int) < (bs.length : Int) := by omega
    rw [hy] at hz
    obtain ⟨bb, bo, b1, b2, b3, b4, m1, m2, m3, m4, hba, _, hbl⟩ := (HB.out wr HGw.out).num hyb
    have HBk : Hid (∀ W, wr.grownBy W none → W.cell? ⟨bb, bo + y * 6, none⟩ = some (.int .i64 (bs.getD y Sa.bl0).kind) ∧ W.cell? ⟨bb, bo + y * 6 + 1, none⟩ = some (.int .i64 (bs.getD y Sa.bl0).n) ∧ W.cell? ⟨bb, bo + y * 6 + 2, none⟩ = some (.slice b1 (bs.getD y Sa.bl0).args.length m1) ∧ W.cell? ⟨bb, bo + y * 6 + 3, none⟩ = some (.slice b2 (bs.getD y Sa.bl0).preds.length m2) ∧ W.cell? ⟨bb, bo + y * 6 + 4, none⟩ = some (.slice b3 (bs.getD y Sa.bl0).succs.length m3) ∧ W.cell? ⟨bb, bo + y * 6 + 5, none⟩ = some (.slice b4 (bs.getD y Sa.bl0).list.length m4) ∧ W.cell? ⟨b, o + i, none⟩ = some (.int .i64 (y : Int)) ∧ W.cell? ⟨CB, 3, none⟩ = some (.slice (some ⟨bb, bo, none⟩) bs.length k)) := fun W g => ⟨g.cell hbl.c0 (by simp), g.cell hbl.c1 (by simp), g.cell hbl.c2 (by simp), g.cell hbl.c3 (by simp), g.cell hbl.c4 (by simp), g.cell hbl.c5 (by simp), g.cell hz (by simp), by rw [HK1.out W (grown_trans HG.out g), hba]⟩
    have n0 : ((y : Int) < 0) = False := by simp
    have n1 : decide ((y : Int) < 0) = false := decide_eq_false (by omega)
    have n2 : decide ((y : Int) ≥ (bs.length : Int)) = false := decide_eq_false (by omega)
    have n3 : ¬ (y : Int) ≥ (bs.length : Int) := by omega
    have n4 : ¬ (bs.length : Int) ≤ (y : Int) := by omega
    have n6 : ¬ bs.length ≤ y := by omega
    have hkd : ((bs.getD y Sa.bl0).kind == 0) = false := by simpa using y2
    have HHo : ∀ W, wr.grownBy W none → Calls Try.prog 11 #[.agg #[.int .i64 (bs.getD y Sa.bl0).kind, .int .i64 (bs.getD y Sa.bl0).n, .slice b1 (bs.getD y Sa.bl0).args.length m1, .slice b2 (bs.getD y Sa.bl0).preds.length m2, .slice b3 (bs.getD y Sa.bl0).succs.length m3, .slice b4 (bs.getD y Sa.bl0).list.length m4]] W fun r w' => r = .returned (.bool false) ∧ W.grownBy w' none := fun W g => by
      have h9 := flHole_any (bs.getD y Sa.bl0).kind (.int .i64 (bs.getD y Sa.bl0).n) (.slice b1 (bs.getD y Sa.bl0).args.length m1) (.slice b2 (bs.getD y Sa.bl0).preds.length m2) (.slice b3 (bs.getD y Sa.bl0).succs.length m3) (.slice b4 (bs.getD y Sa.bl0).list.length m4) W
      rw [hkd] at h9
      exact h9
    clear hba hbl hy y0 y1 y2 hkd hz
    generalize (bs.getD y Sa.bl0).kind = ykd at *
    generalize (bs.getD y Sa.bl0).n = yn at *
    generalize (bs.getD y Sa.bl0).args.length = ya at *
    generalize (bs.getD y Sa.bl0).preds.length = yp at *
    generalize (bs.getD y Sa.bl0).succs.length = ys at *
    generalize (bs.getD y Sa.bl0).list.length = yl at *
    go_wp2_with fail
    refine region_lga 26 (World.grownBy.refl _ _) (by kernel_rfl) (by kernel_rfl) (by kernel_rfl) (by kernel_rfl) ?_
    repeat (first
      | (refine lx_end fun W0 G0 => ?_)
      | (refine lx_no ?_ ?_ ?_; (· simp [Region.wanted, yielded]; done); (· kernel_rfl); simp only [Act.put, List.setIfInBounds_toArray, List.set_cons_succ, List.set_cons_zero])
      | (refine lx_val (v := ?_) ?_ ?_ ?_ ?_; rotate_left; (· kernel_rfl); (· exact ⟨by kernel_rfl, rfl⟩); (· intro W g; simp [go_sem, (HBk.out W g).1, (HBk.out W g).2.1, (HBk.out W g).2.2.1, (HBk.out W g).2.2.2.1, (HBk.out W g).2.2.2.2.1, (HBk.out W g).2.2.2.2.2.1, (HBk.out W g).2.2.2.2.2.2.1, (HBk.out W g).2.2.2.2.2.2.2, c1, hyI, n6]; rfl); simp only [Act.put, List.setIfInBounds_toArray, List.set_cons_succ, List.set_cons_zero])
      | (refine lx_callg HHo ?_ ?_ ?_ ?_; (· kernel_rfl); (· exact ⟨by kernel_rfl, rfl⟩); (· intro W g; simp [go_sem]; done); simp only [Act.put, List.setIfInBounds_toArray, List.set_cons_succ, List.set_cons_zero]))

    go_wp2_with fail
    go_roundw
    case rel => exact ⟨i + 1, by go_num, by omega, grown_trans HG.out G0⟩
    case measure => simp [intOf]; omega
end Go.Proofs.Ytbpdggdpgohilaa
