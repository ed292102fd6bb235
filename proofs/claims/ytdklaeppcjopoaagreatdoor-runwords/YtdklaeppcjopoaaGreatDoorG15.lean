/- Contracts and plain facts that the walks share, text by text: RuWw, CeTab. -/
import Derived.Test.YtdklaeppcjopoaaGreatDoorG14
import Derived.Test.YtdklaeppcjopoaaGreatDoorRows
import Derived.Test.YtdklaeppcjopoaaGreatDoorG2
import Derived.Deep.DeepCutAuto
import Derived.LaidMore
import Derived.Lib.LaidTab
import Derived.Stop.Joined
import Derived.Stop.LaidErr
/- RunWords: an instruction of two words. -/
namespace Go.Proofs.YtdklaeppcjopoaaGreatDoor
open Go.RowKit
set_option linter.unusedVariables false

/-- an operation in a block of its own -/
structure O6R (W : World) (B : Nat) (v : O6) : Prop where
  p0 : W.cell? ⟨B, 0, none⟩ = some (.int .i64 v.op)
  p1 : W.cell? ⟨B, 1, none⟩ = some (.int .i64 v.k)
  p2 : W.cell? ⟨B, 2, none⟩ = some (.int .i64 v.to)
  p3 : W.cell? ⟨B, 3, none⟩ = some (.int .u64 v.x)
  p4 : W.cell? ⟨B, 4, none⟩ = some (.int .u64 v.y)
  p5 : W.cell? ⟨B, 5, none⟩ = some (.int .i64 v.t)
theorem O6R.new (w : World) (v : O6) : O6R (w.alloc (Obj.cells #[.int .i64 v.op, .int .i64 v.k, .int .i64 v.to, .int .u64 v.x, .int .u64 v.y, .int .i64 v.t] 25)) w.heap.size v := by
  constructor <;> simp
theorem O6R.kept {w w' : World} {B : Nat} {v : O6} (h : O6R w B v) (g : w.grownBy w' none) : O6R w' B v :=
  ⟨g.cell h.p0 (by simp), g.cell h.p1 (by simp), g.cell h.p2 (by simp), g.cell h.p3 (by simp), g.cell h.p4 (by simp), g.cell h.p5 (by simp)⟩
theorem below6 {w w' : World} (g : w.grownBy w' none) : Below w.heap.size w w' := (Below.refl _ _).grown g (Nat.le_refl _) (by simp)
/-- words lie apart from a row that holds none -/
theorem rw_apart6 {w : World} {ao : Option Addr} {n cap : Nat} {g : Nat → Int} {X k : Nat} {T : TypeId} {f : Nat → Value} (h : RwIn .u64 w ao n cap g) (r : w.rowIs X T k f) (hT : ∀ i z, f i ≠ .int .u64 z) {b off : Nat} (h0 : 0 < n) (e : ao = some ⟨b, off, none⟩) (hb : b = X) : False := by
  obtain ⟨b', off', e', hc⟩ := h.at h0
  rw [e] at e'
  injection e' with e'
  injection e' with e1 e2
  subst e1 e2
  have c0 := hc 0 h0
  rw [Nat.add_zero, hb] at c0
  by_cases hk : off < k
  · rw [r.cell hk] at c0
    exact hT _ _ (Option.some.inj c0)
  · obtain ⟨c, h1, h2, h3⟩ := r
    simp only [World.cell?, h1] at c0
    rw [Array.getElem?_eq_none (by omega)] at c0
    cases c0
theorem row5_no64' {a b : Option Addr} {n m p q : Nat} {x y t z : Int} (i : Nat) : row5 (.slice a n p) (.slice b m q) (.int .i64 x) (.int .i64 y) (.int .i64 t) i ≠ .int .u64 z := by
  unfold row5
  split <;> intro h <;> cases h
/-- a result in a block of its own -/
structure ResAt (T : Ru.St) (N : Nat) (ao : Option Addr) (cp : Nat) (C : Int) (w : World) : Prop where
  r : w.rowIs N 38 5 (row5 (.slice ao T.out.length cp) (.slice none 0 0) (.int .i64 (if T.e = 0 then 3 else T.e)) (.int .i64 T.n) (.int .i64 C))
  w : RwIn .u64 w ao T.out.length cp (fun i => T.out.getD i 0)
theorem res_put6 {T : Ru.St} {w1 W0 : World} {N cp : Nat} {C : Int} {ao : Option Addr} (hg : w1.grownBy W0 none) (hN : w1.heap.size ≤ N) (hr : W0.rowIs N 38 5 (row5 (.slice none 0 0) (.slice none 0 0) (.int .i64 0) (.int .i64 0) (.int .i64 0))) (hw : RwIn .u64 W0 ao T.out.length cp (fun i => T.out.getD i 0)) :
    ResAt T N ao cp C (put5 W0 N (.slice ao T.out.length cp) (.slice none 0 0) (.int .i64 (if T.e = 0 then 3 else T.e)) (.int .i64 T.n) (.int .i64 C)) ∧ w1.grownBy (put5 W0 N (.slice ao T.out.length cp) (.slice none 0 0) (.int .i64 (if T.e = 0 then 3 else T.e)) (.int .i64 T.n) (.int .i64 C)) none :=
  ⟨⟨row5_put hr _ _ _ _ _, hw.grow (grown_put5 _ _ _ _ _ _ _) (fun b off h0 e hh => rw_apart6 hw hr (fun i z => row5_no64' i) h0 e (by injection hh))⟩, grown_two hg (grown_put5 _ _ _ _ _ _ _) hN⟩
theorem outO_app {Ψ : Nat → Value → World → Prop} {i : Nat} {w w' : World} {o : Oper} {A : Act} (s x : Operand) (t : TypeId) (ho : o.op = .call { callee := .builtin .append, args := #[s, x], argTypes := #[t, t] }) {vs vx v' : Value} (hs : A.eval s = vs) (hx : A.eval x = vx) (er : (Builtin.append_ #[t, t] o.type #[vs, vx]).run Tryz.prog w = .ok v' w') (hg : w.grownBy w' none) (hv : Ψ i v' w') : outO Tryz.prog Ψ i w ((execOp A.eval o).run Tryz.prog w) := by
  unfold execOp
  simp only [ho, resolve, invoke, builtin, Sem.run_bind, Sem.run_pure, Result.andThen_ok, List.map_toArray, List.map_cons, List.map_nil, hs, hx, er]
  exact ⟨hg, hv⟩
theorem call_emit {t : Int} {T1 n b1 : Nat} {x y : Int} {L : List InV} {T : Ru.St} {q : Int} {base : Nat} {W : World} (hb : base ≤ W.heap.size) : Calls Tryz.prog 12 #[.int .i64 q] W fun e w' => ∃ z, e = .returned z ∧ W.grownBy w' none ∧ psiR t T1 n b1 x y L T q base 2 z w' :=
  (emit_any q W).mono fun e w' ⟨T2, h1, h2, h3⟩ => ⟨_, h1, h3, T2, rfl, World.ownsRow.mono h2 hb⟩
theorem call_ran {t : Int} {T1 n b1 : Nat} {x y : Int} {L : List InV} {q : Int} {base : Nat} {W : World} {T3 c : Nat} (ht : t = 1 ∨ t = 2) (hx : Ru.W64 x) (hy : Ru.W64 y) (hT : TabAt W) (hL : L.length ≤ 20) (hI : OwnI W base (.slice (some ⟨T3, 0, none⟩) L.length c) L) (hG : Ru.Good t L) :
    Calls Tryz.prog 11 #[.int .i64 t, .slice (some ⟨T3, 0, none⟩) L.length c, .int .u64 x, .int .u64 y] W fun e w' => ∃ z, e = .returned z ∧ W.grownBy w' none ∧ psiR t T1 n b1 x y L (Ru.it (Ru.pgI t L) 100 (Ru.pg0 x y)) q base 8 z w' :=
  (ran_any t ht base T3 L.length c L x y hx hy W hT rfl hL hI hG).mono fun e w' ⟨tr, h1, h2, h3⟩ => by
    obtain ⟨ao, cp, rfl, hr⟩ := h2.rw6
    exact ⟨_, h1, h3, _, rfl, ao, cp, _, rfl, hr⟩
set_option maxRecDepth 100000 in
set_option maxHeartbeats 2500000 in
theorem runWords_walk (a : Option Addr) (len cap : Nat) (V : Nat → O6) (w : World) (hT : TabAt w) (hl : IsO6 w a len cap V) :
    Calls Tryz.prog 3 #[.slice a len cap] w fun e w' => e = .returned (.bool true) ∧ Below w.heap.size w w' := by
  have HW : Hid (∀ W, Calls Tryz.prog 14 #[] W fun r w' => r = .returned (.bool true) ∧ W.grownBy w' none) := wakes5_any
  obtain ⟨hl1, hl2, hl3⟩ := hl
  have hlen : (len : Int) ≤ 9223372036854775807 := by
    have : maxLen ≤ 9223372036854775807 := by decide
    omega
  rcases hl3 with h0 | ⟨b, off, rfl, hlt, hV⟩
  · subst h0
    go_enter Tryz.func3, Tryz.ntmps3
    go_wp2_with fail
    refine wp_loop_once ?_
    go_wp2_with (go_at_call 14; refine (HW.out _).mono ?_; rintro r w1 ⟨rfl, g1⟩)
    go_ret
    exact ⟨rfl, below6 g1⟩
  · have HV : Hid (∀ i, i < len → O6At w b (off + i * 6) (V i)) := hV
    have HTb : Hid (TabAt w) := hT
    clear hV hT
    go_enter Tryz.func3, Tryz.ntmps3
    go_wp2_with fail
    go_loopw [3] (fun i wr => ∃ k : Nat, i = .int .i64 k ∧ k ≤ len ∧ k ≤ 40 ∧ w.grownBy wr none) (fun i _ => len - (intOf i).toNat)
    case atStart => exact ⟨0, rfl, Nat.zero_le _, Nat.zero_le _, World.grownBy.refl _ _⟩
    case round =>
      obtain ⟨k, rfl, hk, hk6, gr⟩ := hrel
      have HG0 : Hid (w.grownBy wr none) := gr
      by_cases hkl : k < len
      · have hkl' : (k : Int) < len := by omega
        by_cases h6 : k < 40
        · have h6' : (k : Int) < 40 := by omega
          have HA := (HV.out k hkl).kept gr
          obtain ⟨v, hv⟩ : ∃ v, V k = v := ⟨_, rfl⟩
          rw [hv] at HA
          obtain ⟨c0, c1, c2, c3, c4, c5, x1, x2, y1, y2⟩ := HA
          have AR : Hid (O6R (wr.alloc (Obj.cells #[.int .i64 v.op, .int .i64 v.k, .int .i64 v.to, .int .u64 v.x, .int .u64 v.y, .int .i64 v.t] 25)) wr.heap.size v) := O6R.new wr v
          have G1 : Hid (w.grownBy (wr.alloc (Obj.cells #[.int .i64 v.op, .int .i64 v.k, .int .i64 v.to, .int .u64 v.x, .int .u64 v.y, .int .i64 v.t] 25)) none) := grown_trans HG0.out (World.grownBy_alloc _ _ _)
          clear hv gr
          cases hb : Wd.hasBinB v.op v.k
          · go_wp2_with (go_at_call 6; refine (rhasBin_any _ _ _).mono ?_; rw [hb]; rintro r wn ⟨rfl, hwn⟩; rw [hwn]; clear hwn wn)
            go_roundw
            case rel => exact ⟨k + 1, by go_num, by omega, by omega, G1.out⟩
            case measure => simp [intOf]; omega
          · have HB : Hid (Wd.hasBinB v.op v.k = true) := hb
            go_upto_if 37 with (first
              | (go_at_call 6; refine (rhasBin_any _ _ _).mono ?_; rw [hb]; rintro r wn ⟨rfl, hwn⟩; rw [hwn]; clear hwn wn)
              | (go_at_call 7; refine (rshift_any _ _).mono ?_; rintro r wn ⟨rfl, hwn⟩; rw [hwn]; clear hwn wn))
            clear c0 c1 c2 c3 c4 c5 hb
            generalize wr.alloc (Obj.cells #[.int .i64 v.op, .int .i64 v.k, .int .i64 v.to, .int .u64 v.x, .int .u64 v.y, .int .i64 v.t] 25) = w1 at *
            obtain ⟨b1, hb1⟩ : ∃ b1, b1 = wr.heap.size := ⟨_, rfl⟩
            rw [← hb1] at AR ⊢
            clear hb1
            go_cut [6] (fun q wx => q = .int .i64 (Ru.ky v.op v.k) ∧ wx = w1)
            case first =>
              cases hs : Wd.shB v.op
              · have hky : Ru.ky v.op v.k = v.k := by unfold Ru.ky; rw [hs]; rfl
                go_wp2
                go_meet
                exact ⟨by rw [hky], rfl⟩
              · have hky : Ru.ky v.op v.k = 9 := by unfold Ru.ky; rw [hs]; rfl
                go_wp2
                go_meet
                exact ⟨by rw [hky], rfl⟩
            case rest =>
              obtain ⟨rfl, hwc⟩ := hcut
              rw [hwc]
              clear hwc
              obtain ⟨q, hky⟩ : ∃ q, q = Ru.ky v.op v.k := ⟨_, rfl⟩
              rw [← hky]
              obtain ⟨B, hB⟩ : ∃ B, B = Fl.binA v.op v.k (Wd.canon v.k v.x) (Wd.canon q v.y) := ⟨_, rfl⟩
              have HKY : Hid (q = Ru.ky v.op v.k) := hky
              have HBB : Hid (B = Fl.binA v.op v.k (Wd.canon v.k v.x) (Wd.canon q v.y)) := hB
              clear hky
              have HXc : Hid (Ru.W64 v.x) := ⟨x1, x2⟩
              have HYc : Hid (Ru.W64 v.y) := ⟨y1, y2⟩
              have HC1 : Hid (∀ (x : Gw w1) (k z : Int), Hid (Ru.W64 z) → Calls Tryz.prog 9 #[.int .i64 k, .int .u64 z] x.w fun e w' => e = .returned (.int .u64 (Wd.canon k z)) ∧ x.w.grownBy w' none) := fun x k z hz => (rcanon_any k z x.w hz.out.1 hz.out.2).mono fun e w' ⟨h1, h2⟩ => ⟨h1, by rw [h2]; exact World.grownBy.refl _ _⟩
              have HBn : Hid (∀ x : Gw w1, Calls Tryz.prog 8 #[.int .i64 v.op, .int .i64 v.k, .int .u64 (Wd.canon v.k v.x), .int .u64 (Wd.canon q v.y)] x.w fun e w' => e = .returned (.tuple #[.int .u64 B.1, .int .i64 B.2]) ∧ x.w.grownBy w' none) := fun x => by
                have c1 := Wd.canon_rng v.k v.x
                have c2 := Wd.canon_rng q v.y
                have := rbin_any v.op v.k _ _ x.w c1.1 c1.2 c2.1 c2.2
                rw [← hB] at this
                exact this.mono fun e w' ⟨h1, d, h2⟩ => ⟨h1, by rw [h2]; exact grown_drewN (World.grownBy.refl _ _) d⟩
              clear hB
              go_wp2_with fail
              go_cut [7, 8] (fun a e wx => a = .int .u64 B.1 ∧ e = .int .i64 B.2 ∧ w1.grownBy wx none)
              case first =>
                have dd0 : ∀ x : Gw w1, x.w.cell? ⟨b1, 0, none⟩ = some (.int .i64 v.op) := fun x => (AR.out.kept x.h).p0
                have dd3 : ∀ x : Gw w1, x.w.cell? ⟨b1, 3, none⟩ = some (.int .u64 v.x) := fun x => (AR.out.kept x.h).p3
                have dd4 : ∀ x : Gw w1, x.w.cell? ⟨b1, 4, none⟩ = some (.int .u64 v.y) := fun x => (AR.out.kept x.h).p4
                have ne : Nonempty (Gw w1) := ⟨⟨w1, World.grownBy.refl _ _⟩⟩
                refine region_grown (by kernel_rfl) (by kernel_rfl) ?_
                repeat (go_big_quiet_step ((first
                  | (go_at_call 9; exact Gw.call (HC1.out _ _ _ (by first | exact HXc | exact HYc)))
                  | (go_at_call 8; exact Gw.call (HBn.out _))
                  | exact rfl)))
                refine wpQuiet_nil ?_
                rintro _ ⟨x, rfl⟩
                go_wp2_with fail
                go_meet
                exact ⟨rfl, rfl, x.h⟩
              case rest =>
                obtain ⟨rfl, rfl, g2⟩ := hcut
                obtain ⟨w2, hwc⟩ : ∃ x, x = wc := ⟨_, rfl⟩
                rw [← hwc] at g2 ⊢
                clear hwc
                have AR2 : Hid (O6R w2 b1 v) := AR.out.kept g2
                have G2 : Hid (w.grownBy w2 none) := grown_trans G1.out g2
                clear AR G1 g2 HC1 HBn
                have AR := AR2
                have G1 := G2
                clear AR2 G2
                rcases within2 v.t with HWi | HWi
                · skip
                  have HX : Hid (Ru.W64 v.x) := ⟨x1, x2⟩
                  have HY : Hid (Ru.W64 v.y) := ⟨y1, y2⟩
                  have HL20 : Hid ((Ru.wordsL 1 v.op v.k).length ≤ 20) := by show _ ≤ 20; unfold Ru.wordsL; simp
                  have HG : Hid (Ru.Good 1 (Ru.wordsL 1 v.op v.k)) := Ru.words_good (by decide) HB.out
                  have HEnd : Hid ((B.2 = 0 → Ru.Ends (Ru.it (Ru.pgI 1 (Ru.wordsL 1 v.op v.k)) 100 (Ru.pg0 v.x v.y)) B.1) ∧ (B.2 ≠ 0 → (Ru.it (Ru.pgI 1 (Ru.wordsL 1 v.op v.k)) 100 (Ru.pg0 v.x v.y)).out = [] ∧ (Ru.it (Ru.pgI 1 (Ru.wordsL 1 v.op v.k)) 100 (Ru.pg0 v.x v.y)).e = 5)) := by
                    have := Ru.words_end (t := 1) (by decide) v.x v.y HB.out
                    rw [← HKY.out, ← HBB.out] at this
                    exact this
                  have OI : Hid (OwnI (w2.alloc (Obj.cells #[.int .i64 4, .int .i64 3, .int .i64 0, .int .i64 1, .int .i64 v.k, .int .i64 v.op, .int .i64 0, .int .i64 0, .int .i64 0, .int .i64 3, .int .i64 0, .int .i64 3, .int .i64 0, .int .i64 0, .int .i64 0, .int .i64 0, .int .i64 0, .int .i64 0] 34)) 0 (.slice (some ⟨w2.heap.size, 0, none⟩) 2 2) [⟨4, 3, 0, 1, v.k, v.op, 0, 0, 0⟩, ⟨3, 0, 3, 0, 0, 0, 0, 0, 0⟩]) := OwnI.lit w2 0 [⟨4, 3, 0, 1, v.k, v.op, 0, 0, 0⟩, ⟨3, 0, 3, 0, 0, 0, 0, 0, 0⟩] _ rfl (Nat.zero_le _) (by simp)
                  have AR3 : Hid (O6R (w2.alloc (Obj.cells #[.int .i64 4, .int .i64 3, .int .i64 0, .int .i64 1, .int .i64 v.k, .int .i64 v.op, .int .i64 0, .int .i64 0, .int .i64 0, .int .i64 3, .int .i64 0, .int .i64 3, .int .i64 0, .int .i64 0, .int .i64 0, .int .i64 0, .int .i64 0, .int .i64 0] 34)) b1 v) := AR.out.kept (World.grownBy_alloc _ _ _)
                  have G3 : Hid (w.grownBy (w2.alloc (Obj.cells #[.int .i64 4, .int .i64 3, .int .i64 0, .int .i64 1, .int .i64 v.k, .int .i64 v.op, .int .i64 0, .int .i64 0, .int .i64 0, .int .i64 3, .int .i64 0, .int .i64 3, .int .i64 0, .int .i64 0, .int .i64 0, .int .i64 0, .int .i64 0, .int .i64 0] 34)) none) := grown_trans G1.out (World.grownBy_alloc _ _ _)
                  have p0 := AR.out.p0
                  have p5 := AR.out.p5
                  clear AR G1
                  go_wp2_with (go_at_call 10; refine (HWi _).mono ?_; rintro r wn ⟨rfl, hwn⟩; rw [hwn]; clear hwn wn)
                  clear p0 p5
                  generalize (w2.alloc (Obj.cells #[.int .i64 4, .int .i64 3, .int .i64 0, .int .i64 1, .int .i64 v.k, .int .i64 v.op, .int .i64 0, .int .i64 0, .int .i64 0, .int .i64 3, .int .i64 0, .int .i64 3, .int .i64 0, .int .i64 0, .int .i64 0, .int .i64 0, .int .i64 0, .int .i64 0] 34)) = w3 at *
                  obtain ⟨T1, hT1⟩ : ∃ T1, T1 = w2.heap.size := ⟨_, rfl⟩
                  rw [← hT1] at OI ⊢
                  clear hT1
                  have AR := AR3
                  have G1 := G3
                  clear AR3 G3
                  have HTw : Hid (TabAt w3) := HTb.out.kept G1.out (by simp)
                  go_cut [11, 12] (fun p e wx => ∃ N ao cp C, p = .pointer (some ⟨N, 0, none⟩) ∧ e = .bool true ∧ ResAt (Ru.it (Ru.pgI 1 (Ru.wordsL 1 v.op v.k)) 100 (Ru.pg0 v.x v.y)) N ao cp C wx ∧ w3.grownBy wx none)
                  case first =>
                    refine region_late 13 11 _ _ _ (psiR 1 T1 2 b1 v.x v.y (Ru.wordsL 1 v.op v.k) (Ru.it (Ru.pgI 1 (Ru.wordsL 1 v.op v.k)) 100 (Ru.pg0 v.x v.y)) 0 w3.heap.size) (by kernel_rfl) (by kernel_rfl) rfl rfl rfl (by kernel_rfl) (by kernel_rfl) (fun i x w0 w1 hi h g => psiR_stable h g) ?_ ?_ ?_
                    · simp only [List.take_succ_cons, List.take_zero]
                      refine ⟨?_, ?_, ?_, ?_, ?_, ?_, ?_, ?_, ?_, ?_, ?_, ?_, ?_, trivial⟩
                      · intro V W0 A g hV hs h0
                        have e09 := h0 9 (.int .i64 1) (by kernel_rfl) rfl
                        clear hV hs h0
                        refine outO_val (v := .int .i64 1) (w' := W0) ?_ (World.grownBy.refl _ _) rfl
                        simp [go_sem, e09]
                      · intro V W0 A g hV hs h0
                        have e010 := h0 10 (.slice (some ⟨T1, 0, none⟩) 2 2) (by kernel_rfl) rfl
                        clear hV hs h0
                        refine outO_val (v := .slice (some ⟨T1, 0, none⟩) 2 2) (w' := W0) ?_ (World.grownBy.refl _ _) rfl
                        simp [go_sem, e010]
                      · intro V W0 A g hV hs h0
                        clear hV hs h0
                        refine outO_call (f := 12) ?_ (call_emit (by have := g.size; exact this))
                        simp [go_sem]
                      · intro V W0 A g hV hs h0
                        have gD := grown_trans (grown_drew (World.grownBy.refl _ none)) g
                        have hA := AR.out.kept gD
                        have h1 : V 1 = _ := hV 1 (by kernel_rfl)
                        obtain ⟨T2, h2, i2⟩ := hV 2 (by kernel_rfl)
                        have e1 := hs 72 1 (by kernel_rfl) (by kernel_rfl)
                        have e2 := hs 73 2 (by kernel_rfl) (by kernel_rfl)
                        clear hV hs h0
                        rw [h2] at i2
                        obtain ⟨v', w', er, o3, g3⟩ := run_appI (OI.out.grow gD) i2 rfl rfl (by decide) (by decide)
                        obtain ⟨ao3, c3, rfl, _, hz3⟩ := o3.slice
                        obtain ⟨T3, rfl, _⟩ := hz3 (by simp)
                        exact outO_app _ _ _ rfl ((eval_of e1).trans h1) ((eval_of e2).trans h2) er g3 ⟨T3, c3, rfl, World.ownsRow.mono o3 (by have := g.size; exact this)⟩
                      · intro V W0 A g hV hs h0
                        have e04 := h0 4 (.pointer (some ⟨b1, 0, none⟩)) (by kernel_rfl) rfl
                        clear hV hs h0
                        refine outO_val (v := .pointer (some ⟨b1, 3, none⟩)) (w' := W0) ?_ (World.grownBy.refl _ _) rfl
                        simp [go_sem, e04]
                      · intro V W0 A g hV hs h0
                        have gD := grown_trans (grown_drew (World.grownBy.refl _ none)) g
                        have hA := AR.out.kept gD
                        have h4 : V 4 = _ := hV 4 (by kernel_rfl)
                        have e4 := hs 75 4 (by kernel_rfl) (by kernel_rfl)
                        clear hV hs h0
                        refine outO_val (v := .int .u64 v.x) (w' := W0) ?_ (World.grownBy.refl _ _) rfl
                        simp [go_sem, e4, h4, hA.p3]
                      · intro V W0 A g hV hs h0
                        have e04 := h0 4 (.pointer (some ⟨b1, 0, none⟩)) (by kernel_rfl) rfl
                        clear hV hs h0
                        refine outO_val (v := .pointer (some ⟨b1, 4, none⟩)) (w' := W0) ?_ (World.grownBy.refl _ _) rfl
                        simp [go_sem, e04]
                      · intro V W0 A g hV hs h0
                        have gD := grown_trans (grown_drew (World.grownBy.refl _ none)) g
                        have hA := AR.out.kept gD
                        have h6 : V 6 = _ := hV 6 (by kernel_rfl)
                        have e6 := hs 77 6 (by kernel_rfl) (by kernel_rfl)
                        clear hV hs h0
                        refine outO_val (v := .int .u64 v.y) (w' := W0) ?_ (World.grownBy.refl _ _) rfl
                        simp [go_sem, e6, h6, hA.p4]
                      · intro V W0 A g hV hs h0
                        have gD := grown_trans (grown_drew (World.grownBy.refl _ none)) g
                        have hA := AR.out.kept gD
                        have h00 : V 0 = _ := hV 0 (by kernel_rfl)
                        obtain ⟨T3, c3, h3, i3⟩ := hV 3 (by kernel_rfl)
                        have h5 : V 5 = _ := hV 5 (by kernel_rfl)
                        have h7 : V 7 = _ := hV 7 (by kernel_rfl)
                        have e0 := hs 71 0 (by kernel_rfl) (by kernel_rfl)
                        have e3 := hs 74 3 (by kernel_rfl) (by kernel_rfl)
                        have e5 := hs 76 5 (by kernel_rfl) (by kernel_rfl)
                        have e7 := hs 78 7 (by kernel_rfl) (by kernel_rfl)
                        clear hV hs h0
                        rw [h3] at i3
                        refine outO_call (f := 11) ?_ (call_ran (by decide) HX.out HY.out (HTw.out.kept gD (by simp)) HL20.out i3 HG.out)
                        simp [go_sem, e0, e3, e5, e7, h00, h3, h5, h7]
                      · intro V W0 A g hV hs h0
                        obtain ⟨r, h8, i8⟩ := hV 8 (by kernel_rfl)
                        have e8 := hs 79 8 (by kernel_rfl) (by kernel_rfl)
                        clear hV hs h0
                        exact outO_val (v := V 8) (w' := W0) (by simp [go_sem, e8]) (World.grownBy.refl _ _) ⟨r, h8, i8⟩
                      · intro V W0 A g hV hs h0
                        obtain ⟨r, h9, i9⟩ := hV 9 (by kernel_rfl)
                        have e9 := hs 70 9 (by kernel_rfl) (by kernel_rfl)
                        clear hV hs h0
                        refine outO_val (v := r) (w' := W0) ?_ (World.grownBy.refl _ _) i9
                        simp [go_sem, e9, h9]
                      · intro V W0 A g hV hs h0
                        obtain ⟨r, h9, i9⟩ := hV 9 (by kernel_rfl)
                        have e9 := hs 70 9 (by kernel_rfl) (by kernel_rfl)
                        clear hV hs h0
                        refine outO_val (v := .bool true) (w' := W0) ?_ (World.grownBy.refl _ _) rfl
                        simp [go_sem, e9, h9]
                      · intro V W0 A g hV hs h0
                        clear hV hs h0
                        refine outO_val (v := .pointer (some ⟨W0.heap.size, 0, none⟩)) (w' := W0.alloc (Obj.cells #[.slice none 0 0, .slice none 0 0, .int .i64 0, .int .i64 0, .int .i64 0] 38)) ?_ (World.grownBy_alloc _ _ _) ⟨W0.heap.size, rfl, row5_new _ _ _ _ _ _ _, by have := g.size; exact this⟩
                        simp [go_sem]
                    · intro V W0 g hV
                      have h0 : V 0 = _ := hV 0 (by decide)
                      have h1 : V 1 = _ := hV 1 (by decide)
                      have h4 : V 4 = _ := hV 4 (by decide)
                      have h5 : V 5 = _ := hV 5 (by decide)
                      have h6 : V 6 = _ := hV 6 (by decide)
                      have h7 : V 7 = _ := hV 7 (by decide)
                      obtain ⟨T2, h2, _⟩ := hV 2 (by decide)
                      obtain ⟨T3, c3, h3, _⟩ := hV 3 (by decide)
                      obtain ⟨r8, h8, _⟩ := hV 8 (by decide)
                      obtain ⟨r9, h9, _⟩ := hV 9 (by decide)
                      obtain ⟨ao, cp, C, h10, hrw⟩ := hV 10 (by decide)
                      have h11 : V 11 = _ := hV 11 (by decide)
                      obtain ⟨N, h12, hrow, hN⟩ := hV 12 (by decide)
                      have HR2 : Hid (W0.rowIs N 38 5 (row5 (.slice none 0 0) (.slice none 0 0) (.int .i64 0) (.int .i64 0) (.int .i64 0))) := hrow
                      have HRW : Hid (RwIn .u64 W0 ao (Ru.it (Ru.pgI 1 (Ru.wordsL 1 v.op v.k)) 100 (Ru.pg0 v.x v.y)).out.length cp (fun i => (Ru.it (Ru.pgI 1 (Ru.wordsL 1 v.op v.k)) 100 (Ru.pg0 v.x v.y)).out.getD i 0)) := hrw
                      obtain ⟨z0, z1, z2, z3, z4, zz⟩ := rowIs_five hrow
                      simp [frV, dstOf, Act.put, h0, h1, h2, h3, h4, h5, h6, h7, h8, h9, h10, h11, h12]
                      clear h0 h1 h2 h3 h4 h5 h6 h7 h8 h9 h10 h11 h12 hV hrow hrw
                      have GR : Hid (∀ C : Int, ResAt (Ru.it (Ru.pgI 1 (Ru.wordsL 1 v.op v.k)) 100 (Ru.pg0 v.x v.y)) N ao cp C (put5 W0 N (.slice ao (Ru.it (Ru.pgI 1 (Ru.wordsL 1 v.op v.k)) 100 (Ru.pg0 v.x v.y)).out.length cp) (.slice none 0 0) (.int .i64 (if (Ru.it (Ru.pgI 1 (Ru.wordsL 1 v.op v.k)) 100 (Ru.pg0 v.x v.y)).e = 0 then 3 else (Ru.it (Ru.pgI 1 (Ru.wordsL 1 v.op v.k)) 100 (Ru.pg0 v.x v.y)).e)) (.int .i64 (Ru.it (Ru.pgI 1 (Ru.wordsL 1 v.op v.k)) 100 (Ru.pg0 v.x v.y)).n) (.int .i64 C)) ∧ w3.grownBy (put5 W0 N (.slice ao (Ru.it (Ru.pgI 1 (Ru.wordsL 1 v.op v.k)) 100 (Ru.pg0 v.x v.y)).out.length cp) (.slice none 0 0) (.int .i64 (if (Ru.it (Ru.pgI 1 (Ru.wordsL 1 v.op v.k)) 100 (Ru.pg0 v.x v.y)).e = 0 then 3 else (Ru.it (Ru.pgI 1 (Ru.wordsL 1 v.op v.k)) 100 (Ru.pg0 v.x v.y)).e)) (.int .i64 (Ru.it (Ru.pgI 1 (Ru.wordsL 1 v.op v.k)) 100 (Ru.pg0 v.x v.y)).n) (.int .i64 C)) none) := fun C => res_put6 (grown_trans (grown_drew (World.grownBy.refl _ none)) g) hN HR2.out HRW.out
                      clear HRW
                      generalize (if (Ru.it (Ru.pgI 1 (Ru.wordsL 1 v.op v.k)) 100 (Ru.pg0 v.x v.y)).e = 0 then 3 else (Ru.it (Ru.pgI 1 (Ru.wordsL 1 v.op v.k)) 100 (Ru.pg0 v.x v.y)).e) = E at *
                      obtain ⟨Z, hZ⟩ : ∃ Z, Z = (Ru.it (Ru.pgI 1 (Ru.wordsL 1 v.op v.k)) 100 (Ru.pg0 v.x v.y)).n := ⟨_, rfl⟩
                      obtain ⟨ln, hln⟩ : ∃ ln, ln = (Ru.it (Ru.pgI 1 (Ru.wordsL 1 v.op v.k)) 100 (Ru.pg0 v.x v.y)).out.length := ⟨_, rfl⟩
                      rw [← hZ, ← hln] at GR ⊢
                      clear hZ hln
                      go_wp2_with fail
                      go_meet
                      exact ⟨N, ao, cp, C, rfl, rfl, GR.out C⟩
                    · intro V W0 g hV hold
                      have h0 : V 0 = _ := hV 0 (by decide) (by decide)
                      have h1 : V 1 = _ := hV 1 (by decide) (by decide)
                      have h4 : V 4 = _ := hV 4 (by decide) (by decide)
                      have h5 : V 5 = _ := hV 5 (by decide) (by decide)
                      have h6 : V 6 = _ := hV 6 (by decide) (by decide)
                      have h7 : V 7 = _ := hV 7 (by decide) (by decide)
                      obtain ⟨T2, h2, _⟩ := hV 2 (by decide) (by decide)
                      obtain ⟨T3, c3, h3, _⟩ := hV 3 (by decide) (by decide)
                      obtain ⟨r8, h8, _⟩ := hV 8 (by decide) (by decide)
                      obtain ⟨r9, h9, _⟩ := hV 9 (by decide) (by decide)
                      obtain ⟨ao, cp, C, h10, hrw⟩ := hV 10 (by decide) (by decide)
                      obtain ⟨y, h11⟩ : ∃ y, V 11 = y := ⟨_, rfl⟩
                      obtain ⟨N, h12, hrow, hN⟩ := hV 12 (by decide) (by decide)
                      have HR2 : Hid (W0.rowIs N 38 5 (row5 (.slice none 0 0) (.slice none 0 0) (.int .i64 0) (.int .i64 0) (.int .i64 0))) := hrow
                      have HRW : Hid (RwIn .u64 W0 ao (Ru.it (Ru.pgI 1 (Ru.wordsL 1 v.op v.k)) 100 (Ru.pg0 v.x v.y)).out.length cp (fun i => (Ru.it (Ru.pgI 1 (Ru.wordsL 1 v.op v.k)) 100 (Ru.pg0 v.x v.y)).out.getD i 0)) := hrw
                      obtain ⟨z0, z1, z2, z3, z4, zz⟩ := rowIs_five hrow
                      simp [frV, dstOf, Act.put, h0, h1, h2, h3, h4, h5, h6, h7, h8, h9, h10, h11, h12]
                      clear h0 h1 h2 h3 h4 h5 h6 h7 h8 h9 h10 h11 h12 hV hrow hrw hold
                      have GR : Hid (∀ C : Int, ResAt (Ru.it (Ru.pgI 1 (Ru.wordsL 1 v.op v.k)) 100 (Ru.pg0 v.x v.y)) N ao cp C (put5 W0 N (.slice ao (Ru.it (Ru.pgI 1 (Ru.wordsL 1 v.op v.k)) 100 (Ru.pg0 v.x v.y)).out.length cp) (.slice none 0 0) (.int .i64 (if (Ru.it (Ru.pgI 1 (Ru.wordsL 1 v.op v.k)) 100 (Ru.pg0 v.x v.y)).e = 0 then 3 else (Ru.it (Ru.pgI 1 (Ru.wordsL 1 v.op v.k)) 100 (Ru.pg0 v.x v.y)).e)) (.int .i64 (Ru.it (Ru.pgI 1 (Ru.wordsL 1 v.op v.k)) 100 (Ru.pg0 v.x v.y)).n) (.int .i64 C)) ∧ w3.grownBy (put5 W0 N (.slice ao (Ru.it (Ru.pgI 1 (Ru.wordsL 1 v.op v.k)) 100 (Ru.pg0 v.x v.y)).out.length cp) (.slice none 0 0) (.int .i64 (if (Ru.it (Ru.pgI 1 (Ru.wordsL 1 v.op v.k)) 100 (Ru.pg0 v.x v.y)).e = 0 then 3 else (Ru.it (Ru.pgI 1 (Ru.wordsL 1 v.op v.k)) 100 (Ru.pg0 v.x v.y)).e)) (.int .i64 (Ru.it (Ru.pgI 1 (Ru.wordsL 1 v.op v.k)) 100 (Ru.pg0 v.x v.y)).n) (.int .i64 C)) none) := fun C => res_put6 (grown_trans (grown_drew (World.grownBy.refl _ none)) g) hN HR2.out HRW.out
                      clear HRW
                      generalize (if (Ru.it (Ru.pgI 1 (Ru.wordsL 1 v.op v.k)) 100 (Ru.pg0 v.x v.y)).e = 0 then 3 else (Ru.it (Ru.pgI 1 (Ru.wordsL 1 v.op v.k)) 100 (Ru.pg0 v.x v.y)).e) = E at *
                      obtain ⟨Z, hZ⟩ : ∃ Z, Z = (Ru.it (Ru.pgI 1 (Ru.wordsL 1 v.op v.k)) 100 (Ru.pg0 v.x v.y)).n := ⟨_, rfl⟩
                      obtain ⟨ln, hln⟩ : ∃ ln, ln = (Ru.it (Ru.pgI 1 (Ru.wordsL 1 v.op v.k)) 100 (Ru.pg0 v.x v.y)).out.length := ⟨_, rfl⟩
                      rw [← hZ, ← hln] at GR ⊢
                      clear hZ hln
                      go_wp2_with fail
                      go_meet
                      exact ⟨N, ao, cp, C, rfl, rfl, GR.out C⟩
                  case rest =>
                    obtain ⟨N, ao, cp, C, rfl, rfl, hres, g4⟩ := hcut
                    obtain ⟨w4, hwc⟩ : ∃ x, x = wc := ⟨_, rfl⟩
                    rw [← hwc] at hres g4 ⊢
                    clear hwc
                    have G4 : Hid (w.grownBy w4 none) := grown_trans G1.out g4
                    obtain ⟨hrow, hrw⟩ := hres
                    generalize (Ru.it (Ru.pgI 1 (Ru.wordsL 1 v.op v.k)) 100 (Ru.pg0 v.x v.y)) = TT at *
                    by_cases hz : B.2 = 0
                    · obtain ⟨o1, e1, n1⟩ := HEnd.out.1 hz
                      have z1 : (B.2 == 0) = true := by simpa using hz
                      have z2 : (B.2 != 0) = false := by simpa using hz
                      rw [o1, e1, n1] at hrow
                      rw [o1] at hrw
                      obtain ⟨gg, oo, rfl, hc⟩ := hrw.at (by simp)
                      have hc0 := hc 0 (by simp)
                      have HTd : Hid (Calls Tryz.prog 13 #[.agg #[.slice (some ⟨gg, oo, none⟩) 1 cp, .slice none 0 0, .int .i64 1, .int .i64 (Wd.sg B.1), .int .i64 C], .int .u64 B.1] w4 fun r w' => r = .returned (.bool true) ∧ w4.grownBy w' none) := told_true gg oo cp B.1 C w4 (by simpa using hc0)
                      have hrow2 : w4.rowIs N 38 5 (row5 (.slice (some ⟨gg, oo, none⟩) 1 cp) (.slice none 0 0) (.int .i64 1) (.int .i64 (Wd.sg B.1)) (.int .i64 C)) := hrow
                      obtain ⟨q0, q1, q2, q3, q4, qz⟩ := rowIs_five hrow2
                      clear hrow hrow2 hrw hc hc0 hz qz
                      generalize Wd.sg B.1 = SG at *
                      go_wp2_with fail
                      refine HTd.out.mono ?_
                      rintro r w5 ⟨rfl, g5⟩
                      go_wp2_with fail
                      go_roundw
                      case rel => exact ⟨k + 1, by go_num, by omega, by omega, grown_trans G4.out g5⟩
                      case measure => simp [intOf]; omega
                    · obtain ⟨o1, e1⟩ := HEnd.out.2 hz
                      have z1 : (B.2 == 0) = false := by simpa using hz
                      have z2 : (B.2 != 0) = true := by simpa using hz
                      rw [o1, e1] at hrow
                      have hrow2 : w4.rowIs N 38 5 (row5 (.slice ao 0 cp) (.slice none 0 0) (.int .i64 5) (.int .i64 TT.n) (.int .i64 C)) := hrow
                      obtain ⟨q0, q1, q2, q3, q4, qz⟩ := rowIs_five hrow2
                      clear hrow hrow2 hrw hz qz
                      go_wp2_with fail
                      go_roundw
                      case rel => exact ⟨k + 1, by go_num, by omega, by omega, G4.out⟩
                      case measure => simp [intOf]; omega
                · skip
                  have HX : Hid (Ru.W64 v.x) := ⟨x1, x2⟩
                  have HY : Hid (Ru.W64 v.y) := ⟨y1, y2⟩
                  have HL20 : Hid ((Ru.wordsL 2 v.op v.k).length ≤ 20) := by show _ ≤ 20; unfold Ru.wordsL; simp
                  have HG : Hid (Ru.Good 2 (Ru.wordsL 2 v.op v.k)) := Ru.words_good (by decide) HB.out
                  have HEnd : Hid ((B.2 = 0 → Ru.Ends (Ru.it (Ru.pgI 2 (Ru.wordsL 2 v.op v.k)) 100 (Ru.pg0 v.x v.y)) B.1) ∧ (B.2 ≠ 0 → (Ru.it (Ru.pgI 2 (Ru.wordsL 2 v.op v.k)) 100 (Ru.pg0 v.x v.y)).out = [] ∧ (Ru.it (Ru.pgI 2 (Ru.wordsL 2 v.op v.k)) 100 (Ru.pg0 v.x v.y)).e = 5)) := by
                    have := Ru.words_end (t := 2) (by decide) v.x v.y HB.out
                    rw [← HKY.out, ← HBB.out] at this
                    exact this
                  have OI : Hid (OwnI (w2.alloc (Obj.cells #[.int .i64 4, .int .i64 0, .int .i64 1, .int .i64 0, .int .i64 v.k, .int .i64 v.op, .int .i64 0, .int .i64 0, .int .i64 0] 34)) 0 (.slice (some ⟨w2.heap.size, 0, none⟩) 1 1) [⟨4, 0, 1, 0, v.k, v.op, 0, 0, 0⟩]) := OwnI.lit w2 0 [⟨4, 0, 1, 0, v.k, v.op, 0, 0, 0⟩] _ rfl (Nat.zero_le _) (by simp)
                  have AR3 : Hid (O6R (w2.alloc (Obj.cells #[.int .i64 4, .int .i64 0, .int .i64 1, .int .i64 0, .int .i64 v.k, .int .i64 v.op, .int .i64 0, .int .i64 0, .int .i64 0] 34)) b1 v) := AR.out.kept (World.grownBy_alloc _ _ _)
                  have G3 : Hid (w.grownBy (w2.alloc (Obj.cells #[.int .i64 4, .int .i64 0, .int .i64 1, .int .i64 0, .int .i64 v.k, .int .i64 v.op, .int .i64 0, .int .i64 0, .int .i64 0] 34)) none) := grown_trans G1.out (World.grownBy_alloc _ _ _)
                  have p0 := AR.out.p0
                  have p5 := AR.out.p5
                  clear AR G1
                  go_wp2_with (go_at_call 10; refine (HWi _).mono ?_; rintro r wn ⟨rfl, hwn⟩; rw [hwn]; clear hwn wn)
                  clear p0 p5
                  generalize (w2.alloc (Obj.cells #[.int .i64 4, .int .i64 0, .int .i64 1, .int .i64 0, .int .i64 v.k, .int .i64 v.op, .int .i64 0, .int .i64 0, .int .i64 0] 34)) = w3 at *
                  obtain ⟨T1, hT1⟩ : ∃ T1, T1 = w2.heap.size := ⟨_, rfl⟩
                  rw [← hT1] at OI ⊢
                  clear hT1
                  have AR := AR3
                  have G1 := G3
                  clear AR3 G3
                  have HTw : Hid (TabAt w3) := HTb.out.kept G1.out (by simp)
                  go_cut [11, 12] (fun p e wx => ∃ N ao cp C, p = .pointer (some ⟨N, 0, none⟩) ∧ e = .bool true ∧ ResAt (Ru.it (Ru.pgI 2 (Ru.wordsL 2 v.op v.k)) 100 (Ru.pg0 v.x v.y)) N ao cp C wx ∧ w3.grownBy wx none)
                  case first =>
                    refine region_late 13 11 _ _ _ (psiR 2 T1 1 b1 v.x v.y (Ru.wordsL 2 v.op v.k) (Ru.it (Ru.pgI 2 (Ru.wordsL 2 v.op v.k)) 100 (Ru.pg0 v.x v.y)) 0 w3.heap.size) (by kernel_rfl) (by kernel_rfl) rfl rfl rfl (by kernel_rfl) (by kernel_rfl) (fun i x w0 w1 hi h g => psiR_stable h g) ?_ ?_ ?_
                    · simp only [List.take_succ_cons, List.take_zero]
                      refine ⟨?_, ?_, ?_, ?_, ?_, ?_, ?_, ?_, ?_, ?_, ?_, ?_, ?_, trivial⟩
                      · intro V W0 A g hV hs h0
                        have e09 := h0 9 (.int .i64 2) (by kernel_rfl) rfl
                        clear hV hs h0
                        refine outO_val (v := .int .i64 2) (w' := W0) ?_ (World.grownBy.refl _ _) rfl
                        simp [go_sem, e09]
                      · intro V W0 A g hV hs h0
                        have e010 := h0 10 (.slice (some ⟨T1, 0, none⟩) 1 1) (by kernel_rfl) rfl
                        clear hV hs h0
                        refine outO_val (v := .slice (some ⟨T1, 0, none⟩) 1 1) (w' := W0) ?_ (World.grownBy.refl _ _) rfl
                        simp [go_sem, e010]
                      · intro V W0 A g hV hs h0
                        clear hV hs h0
                        refine outO_call (f := 12) ?_ (call_emit (by have := g.size; exact this))
                        simp [go_sem]
                      · intro V W0 A g hV hs h0
                        have gD := grown_trans (grown_drew (World.grownBy.refl _ none)) g
                        have hA := AR.out.kept gD
                        have h1 : V 1 = _ := hV 1 (by kernel_rfl)
                        obtain ⟨T2, h2, i2⟩ := hV 2 (by kernel_rfl)
                        have e1 := hs 72 1 (by kernel_rfl) (by kernel_rfl)
                        have e2 := hs 73 2 (by kernel_rfl) (by kernel_rfl)
                        clear hV hs h0
                        rw [h2] at i2
                        obtain ⟨v', w', er, o3, g3⟩ := run_appI (OI.out.grow gD) i2 rfl rfl (by decide) (by decide)
                        obtain ⟨ao3, c3, rfl, _, hz3⟩ := o3.slice
                        obtain ⟨T3, rfl, _⟩ := hz3 (by simp)
                        exact outO_app _ _ _ rfl ((eval_of e1).trans h1) ((eval_of e2).trans h2) er g3 ⟨T3, c3, rfl, World.ownsRow.mono o3 (by have := g.size; exact this)⟩
                      · intro V W0 A g hV hs h0
                        have e04 := h0 4 (.pointer (some ⟨b1, 0, none⟩)) (by kernel_rfl) rfl
                        clear hV hs h0
                        refine outO_val (v := .pointer (some ⟨b1, 3, none⟩)) (w' := W0) ?_ (World.grownBy.refl _ _) rfl
                        simp [go_sem, e04]
                      · intro V W0 A g hV hs h0
                        have gD := grown_trans (grown_drew (World.grownBy.refl _ none)) g
                        have hA := AR.out.kept gD
                        have h4 : V 4 = _ := hV 4 (by kernel_rfl)
                        have e4 := hs 75 4 (by kernel_rfl) (by kernel_rfl)
                        clear hV hs h0
                        refine outO_val (v := .int .u64 v.x) (w' := W0) ?_ (World.grownBy.refl _ _) rfl
                        simp [go_sem, e4, h4, hA.p3]
                      · intro V W0 A g hV hs h0
                        have e04 := h0 4 (.pointer (some ⟨b1, 0, none⟩)) (by kernel_rfl) rfl
                        clear hV hs h0
                        refine outO_val (v := .pointer (some ⟨b1, 4, none⟩)) (w' := W0) ?_ (World.grownBy.refl _ _) rfl
                        simp [go_sem, e04]
                      · intro V W0 A g hV hs h0
                        have gD := grown_trans (grown_drew (World.grownBy.refl _ none)) g
                        have hA := AR.out.kept gD
                        have h6 : V 6 = _ := hV 6 (by kernel_rfl)
                        have e6 := hs 77 6 (by kernel_rfl) (by kernel_rfl)
                        clear hV hs h0
                        refine outO_val (v := .int .u64 v.y) (w' := W0) ?_ (World.grownBy.refl _ _) rfl
                        simp [go_sem, e6, h6, hA.p4]
                      · intro V W0 A g hV hs h0
                        have gD := grown_trans (grown_drew (World.grownBy.refl _ none)) g
                        have hA := AR.out.kept gD
                        have h00 : V 0 = _ := hV 0 (by kernel_rfl)
                        obtain ⟨T3, c3, h3, i3⟩ := hV 3 (by kernel_rfl)
                        have h5 : V 5 = _ := hV 5 (by kernel_rfl)
                        have h7 : V 7 = _ := hV 7 (by kernel_rfl)
                        have e0 := hs 71 0 (by kernel_rfl) (by kernel_rfl)
                        have e3 := hs 74 3 (by kernel_rfl) (by kernel_rfl)
                        have e5 := hs 76 5 (by kernel_rfl) (by kernel_rfl)
                        have e7 := hs 78 7 (by kernel_rfl) (by kernel_rfl)
                        clear hV hs h0
                        rw [h3] at i3
                        refine outO_call (f := 11) ?_ (call_ran (by decide) HX.out HY.out (HTw.out.kept gD (by simp)) HL20.out i3 HG.out)
                        simp [go_sem, e0, e3, e5, e7, h00, h3, h5, h7]
                      · intro V W0 A g hV hs h0
                        obtain ⟨r, h8, i8⟩ := hV 8 (by kernel_rfl)
                        have e8 := hs 79 8 (by kernel_rfl) (by kernel_rfl)
                        clear hV hs h0
                        exact outO_val (v := V 8) (w' := W0) (by simp [go_sem, e8]) (World.grownBy.refl _ _) ⟨r, h8, i8⟩
                      · intro V W0 A g hV hs h0
                        obtain ⟨r, h9, i9⟩ := hV 9 (by kernel_rfl)
                        have e9 := hs 70 9 (by kernel_rfl) (by kernel_rfl)
                        clear hV hs h0
                        refine outO_val (v := r) (w' := W0) ?_ (World.grownBy.refl _ _) i9
                        simp [go_sem, e9, h9]
                      · intro V W0 A g hV hs h0
                        obtain ⟨r, h9, i9⟩ := hV 9 (by kernel_rfl)
                        have e9 := hs 70 9 (by kernel_rfl) (by kernel_rfl)
                        clear hV hs h0
                        refine outO_val (v := .bool true) (w' := W0) ?_ (World.grownBy.refl _ _) rfl
                        simp [go_sem, e9, h9]
                      · intro V W0 A g hV hs h0
                        clear hV hs h0
                        refine outO_val (v := .pointer (some ⟨W0.heap.size, 0, none⟩)) (w' := W0.alloc (Obj.cells #[.slice none 0 0, .slice none 0 0, .int .i64 0, .int .i64 0, .int .i64 0] 38)) ?_ (World.grownBy_alloc _ _ _) ⟨W0.heap.size, rfl, row5_new _ _ _ _ _ _ _, by have := g.size; exact this⟩
                        simp [go_sem]
                    · intro V W0 g hV
                      have h0 : V 0 = _ := hV 0 (by decide)
                      have h1 : V 1 = _ := hV 1 (by decide)
                      have h4 : V 4 = _ := hV 4 (by decide)
                      have h5 : V 5 = _ := hV 5 (by decide)
                      have h6 : V 6 = _ := hV 6 (by decide)
                      have h7 : V 7 = _ := hV 7 (by decide)
                      obtain ⟨T2, h2, _⟩ := hV 2 (by decide)
                      obtain ⟨T3, c3, h3, _⟩ := hV 3 (by decide)
                      obtain ⟨r8, h8, _⟩ := hV 8 (by decide)
                      obtain ⟨r9, h9, _⟩ := hV 9 (by decide)
                      obtain ⟨ao, cp, C, h10, hrw⟩ := hV 10 (by decide)
                      have h11 : V 11 = _ := hV 11 (by decide)
                      obtain ⟨N, h12, hrow, hN⟩ := hV 12 (by decide)
                      have HR2 : Hid (W0.rowIs N 38 5 (row5 (.slice none 0 0) (.slice none 0 0) (.int .i64 0) (.int .i64 0) (.int .i64 0))) := hrow
                      have HRW : Hid (RwIn .u64 W0 ao (Ru.it (Ru.pgI 2 (Ru.wordsL 2 v.op v.k)) 100 (Ru.pg0 v.x v.y)).out.length cp (fun i => (Ru.it (Ru.pgI 2 (Ru.wordsL 2 v.op v.k)) 100 (Ru.pg0 v.x v.y)).out.getD i 0)) := hrw
                      obtain ⟨z0, z1, z2, z3, z4, zz⟩ := rowIs_five hrow
                      simp [frV, dstOf, Act.put, h0, h1, h2, h3, h4, h5, h6, h7, h8, h9, h10, h11, h12]
                      clear h0 h1 h2 h3 h4 h5 h6 h7 h8 h9 h10 h11 h12 hV hrow hrw
                      have GR : Hid (∀ C : Int, ResAt (Ru.it (Ru.pgI 2 (Ru.wordsL 2 v.op v.k)) 100 (Ru.pg0 v.x v.y)) N ao cp C (put5 W0 N (.slice ao (Ru.it (Ru.pgI 2 (Ru.wordsL 2 v.op v.k)) 100 (Ru.pg0 v.x v.y)).out.length cp) (.slice none 0 0) (.int .i64 (if (Ru.it (Ru.pgI 2 (Ru.wordsL 2 v.op v.k)) 100 (Ru.pg0 v.x v.y)).e = 0 then 3 else (Ru.it (Ru.pgI 2 (Ru.wordsL 2 v.op v.k)) 100 (Ru.pg0 v.x v.y)).e)) (.int .i64 (Ru.it (Ru.pgI 2 (Ru.wordsL 2 v.op v.k)) 100 (Ru.pg0 v.x v.y)).n) (.int .i64 C)) ∧ w3.grownBy (put5 W0 N (.slice ao (Ru.it (Ru.pgI 2 (Ru.wordsL 2 v.op v.k)) 100 (Ru.pg0 v.x v.y)).out.length cp) (.slice none 0 0) (.int .i64 (if (Ru.it (Ru.pgI 2 (Ru.wordsL 2 v.op v.k)) 100 (Ru.pg0 v.x v.y)).e = 0 then 3 else (Ru.it (Ru.pgI 2 (Ru.wordsL 2 v.op v.k)) 100 (Ru.pg0 v.x v.y)).e)) (.int .i64 (Ru.it (Ru.pgI 2 (Ru.wordsL 2 v.op v.k)) 100 (Ru.pg0 v.x v.y)).n) (.int .i64 C)) none) := fun C => res_put6 (grown_trans (grown_drew (World.grownBy.refl _ none)) g) hN HR2.out HRW.out
                      clear HRW
                      generalize (if (Ru.it (Ru.pgI 2 (Ru.wordsL 2 v.op v.k)) 100 (Ru.pg0 v.x v.y)).e = 0 then 3 else (Ru.it (Ru.pgI 2 (Ru.wordsL 2 v.op v.k)) 100 (Ru.pg0 v.x v.y)).e) = E at *
                      obtain ⟨Z, hZ⟩ : ∃ Z, Z = (Ru.it (Ru.pgI 2 (Ru.wordsL 2 v.op v.k)) 100 (Ru.pg0 v.x v.y)).n := ⟨_, rfl⟩
                      obtain ⟨ln, hln⟩ : ∃ ln, ln = (Ru.it (Ru.pgI 2 (Ru.wordsL 2 v.op v.k)) 100 (Ru.pg0 v.x v.y)).out.length := ⟨_, rfl⟩
                      rw [← hZ, ← hln] at GR ⊢
                      clear hZ hln
                      go_wp2_with fail
                      go_meet
                      exact ⟨N, ao, cp, C, rfl, rfl, GR.out C⟩
                    · intro V W0 g hV hold
                      have h0 : V 0 = _ := hV 0 (by decide) (by decide)
                      have h1 : V 1 = _ := hV 1 (by decide) (by decide)
                      have h4 : V 4 = _ := hV 4 (by decide) (by decide)
                      have h5 : V 5 = _ := hV 5 (by decide) (by decide)
                      have h6 : V 6 = _ := hV 6 (by decide) (by decide)
                      have h7 : V 7 = _ := hV 7 (by decide) (by decide)
                      obtain ⟨T2, h2, _⟩ := hV 2 (by decide) (by decide)
                      obtain ⟨T3, c3, h3, _⟩ := hV 3 (by decide) (by decide)
                      obtain ⟨r8, h8, _⟩ := hV 8 (by decide) (by decide)
                      obtain ⟨r9, h9, _⟩ := hV 9 (by decide) (by decide)
                      obtain ⟨ao, cp, C, h10, hrw⟩ := hV 10 (by decide) (by decide)
                      obtain ⟨y, h11⟩ : ∃ y, V 11 = y := ⟨_, rfl⟩
                      obtain ⟨N, h12, hrow, hN⟩ := hV 12 (by decide) (by decide)
                      have HR2 : Hid (W0.rowIs N 38 5 (row5 (.slice none 0 0) (.slice none 0 0) (.int .i64 0) (.int .i64 0) (.int .i64 0))) := hrow
                      have HRW : Hid (RwIn .u64 W0 ao (Ru.it (Ru.pgI 2 (Ru.wordsL 2 v.op v.k)) 100 (Ru.pg0 v.x v.y)).out.length cp (fun i => (Ru.it (Ru.pgI 2 (Ru.wordsL 2 v.op v.k)) 100 (Ru.pg0 v.x v.y)).out.getD i 0)) := hrw
                      obtain ⟨z0, z1, z2, z3, z4, zz⟩ := rowIs_five hrow
                      simp [frV, dstOf, Act.put, h0, h1, h2, h3, h4, h5, h6, h7, h8, h9, h10, h11, h12]
                      clear h0 h1 h2 h3 h4 h5 h6 h7 h8 h9 h10 h11 h12 hV hrow hrw hold
                      have GR : Hid (∀ C : Int, ResAt (Ru.it (Ru.pgI 2 (Ru.wordsL 2 v.op v.k)) 100 (Ru.pg0 v.x v.y)) N ao cp C (put5 W0 N (.slice ao (Ru.it (Ru.pgI 2 (Ru.wordsL 2 v.op v.k)) 100 (Ru.pg0 v.x v.y)).out.length cp) (.slice none 0 0) (.int .i64 (if (Ru.it (Ru.pgI 2 (Ru.wordsL 2 v.op v.k)) 100 (Ru.pg0 v.x v.y)).e = 0 then 3 else (Ru.it (Ru.pgI 2 (Ru.wordsL 2 v.op v.k)) 100 (Ru.pg0 v.x v.y)).e)) (.int .i64 (Ru.it (Ru.pgI 2 (Ru.wordsL 2 v.op v.k)) 100 (Ru.pg0 v.x v.y)).n) (.int .i64 C)) ∧ w3.grownBy (put5 W0 N (.slice ao (Ru.it (Ru.pgI 2 (Ru.wordsL 2 v.op v.k)) 100 (Ru.pg0 v.x v.y)).out.length cp) (.slice none 0 0) (.int .i64 (if (Ru.it (Ru.pgI 2 (Ru.wordsL 2 v.op v.k)) 100 (Ru.pg0 v.x v.y)).e = 0 then 3 else (Ru.it (Ru.pgI 2 (Ru.wordsL 2 v.op v.k)) 100 (Ru.pg0 v.x v.y)).e)) (.int .i64 (Ru.it (Ru.pgI 2 (Ru.wordsL 2 v.op v.k)) 100 (Ru.pg0 v.x v.y)).n) (.int .i64 C)) none) := fun C => res_put6 (grown_trans (grown_drew (World.grownBy.refl _ none)) g) hN HR2.out HRW.out
                      clear HRW
                      generalize (if (Ru.it (Ru.pgI 2 (Ru.wordsL 2 v.op v.k)) 100 (Ru.pg0 v.x v.y)).e = 0 then 3 else (Ru.it (Ru.pgI 2 (Ru.wordsL 2 v.op v.k)) 100 (Ru.pg0 v.x v.y)).e) = E at *
                      obtain ⟨Z, hZ⟩ : ∃ Z, Z = (Ru.it (Ru.pgI 2 (Ru.wordsL 2 v.op v.k)) 100 (Ru.pg0 v.x v.y)).n := ⟨_, rfl⟩
                      obtain ⟨ln, hln⟩ : ∃ ln, ln = (Ru.it (Ru.pgI 2 (Ru.wordsL 2 v.op v.k)) 100 (Ru.pg0 v.x v.y)).out.length := ⟨_, rfl⟩
                      rw [← hZ, ← hln] at GR ⊢
                      clear hZ hln
                      go_wp2_with fail
                      go_meet
                      exact ⟨N, ao, cp, C, rfl, rfl, GR.out C⟩
                  case rest =>
                    obtain ⟨N, ao, cp, C, rfl, rfl, hres, g4⟩ := hcut
                    obtain ⟨w4, hwc⟩ : ∃ x, x = wc := ⟨_, rfl⟩
                    rw [← hwc] at hres g4 ⊢
                    clear hwc
                    have G4 : Hid (w.grownBy w4 none) := grown_trans G1.out g4
                    obtain ⟨hrow, hrw⟩ := hres
                    generalize (Ru.it (Ru.pgI 2 (Ru.wordsL 2 v.op v.k)) 100 (Ru.pg0 v.x v.y)) = TT at *
                    by_cases hz : B.2 = 0
                    · obtain ⟨o1, e1, n1⟩ := HEnd.out.1 hz
                      have z1 : (B.2 == 0) = true := by simpa using hz
                      have z2 : (B.2 != 0) = false := by simpa using hz
                      rw [o1, e1, n1] at hrow
                      rw [o1] at hrw
                      obtain ⟨gg, oo, rfl, hc⟩ := hrw.at (by simp)
                      have hc0 := hc 0 (by simp)
                      have HTd : Hid (Calls Tryz.prog 13 #[.agg #[.slice (some ⟨gg, oo, none⟩) 1 cp, .slice none 0 0, .int .i64 1, .int .i64 (Wd.sg B.1), .int .i64 C], .int .u64 B.1] w4 fun r w' => r = .returned (.bool true) ∧ w4.grownBy w' none) := told_true gg oo cp B.1 C w4 (by simpa using hc0)
                      have hrow2 : w4.rowIs N 38 5 (row5 (.slice (some ⟨gg, oo, none⟩) 1 cp) (.slice none 0 0) (.int .i64 1) (.int .i64 (Wd.sg B.1)) (.int .i64 C)) := hrow
                      obtain ⟨q0, q1, q2, q3, q4, qz⟩ := rowIs_five hrow2
                      clear hrow hrow2 hrw hc hc0 hz qz
                      generalize Wd.sg B.1 = SG at *
                      go_wp2_with fail
                      refine HTd.out.mono ?_
                      rintro r w5 ⟨rfl, g5⟩
                      go_wp2_with fail
                      go_roundw
                      case rel => exact ⟨k + 1, by go_num, by omega, by omega, grown_trans G4.out g5⟩
                      case measure => simp [intOf]; omega
                    · obtain ⟨o1, e1⟩ := HEnd.out.2 hz
                      have z1 : (B.2 == 0) = false := by simpa using hz
                      have z2 : (B.2 != 0) = true := by simpa using hz
                      rw [o1, e1] at hrow
                      have hrow2 : w4.rowIs N 38 5 (row5 (.slice ao 0 cp) (.slice none 0 0) (.int .i64 5) (.int .i64 TT.n) (.int .i64 C)) := hrow
                      obtain ⟨q0, q1, q2, q3, q4, qz⟩ := rowIs_five hrow2
                      clear hrow hrow2 hrw hz qz
                      go_wp2_with fail
                      go_roundw
                      case rel => exact ⟨k + 1, by go_num, by omega, by omega, G4.out⟩
                      case measure => simp [intOf]; omega
        · have h6' : decide ((k : Int) < 40) = false := decide_eq_false (by omega)
          go_wp2_with (go_at_call 14; refine (HW.out _).mono ?_; rintro r w1 ⟨rfl, g1⟩)
          go_ret
          exact ⟨rfl, below6 (grown_trans HG0.out g1)⟩
      · have hkl' : decide ((k : Int) < len) = false := decide_eq_false (by omega)
        go_wp2_with (go_at_call 14; refine (HW.out _).mono ?_; rintro r w1 ⟨rfl, g1⟩)
        go_ret
        exact ⟨rfl, below6 (grown_trans HG0.out g1)⟩
end Go.Proofs.YtdklaeppcjopoaaGreatDoor

/- What the listed variables give the walks: the table of package math/bits. -/
namespace Go.Proofs.YtdklaeppcjopoaaGreatDoor
open Go.ChangeShapes Go.WideShapes Go.ChangeAt Go.RowKit
set_option linter.unusedVariables false

def laid2 : List (String × DataW Unit) := [("math/bits.deBruijn32tab", Rows.laid_math_bits_deBruijn32tab), ("math/bits.deBruijn64tab", Rows.laid_math_bits_deBruijn64tab)]
theorem g64 : Tryz.prog.globalNamed "math/bits.deBruijn64tab" = some 2 := by kernel_rfl
theorem t64 : (Tryz.prog.globals[2]?).map (·.type) = some 171 := by kernel_rfl
theorem cells64 : Tryz.prog.cellsOf 171 = 64 := by kernel_rfl
theorem cells8 : Tryz.prog.cellsOf 5 = 1 := by kernel_rfl
theorem data64 : (Rows.laid_math_bits_deBruijn64tab : DataW Unit) = Lib.tabData .u8 Cc.tzL := rfl
theorem tab_of_laid {W : World} (h : laidMetH Tryz.prog laid2 W) : TabAt W := by
  rw [MakeChecks.laidMetH_plain _ _ _ (by kernel_rfl)] at h
  have h2 := laidMet.tail h
  rw [data64] at h2
  have hT := Lib.tabIs_of_head g64 t64 Tryz.underlying171 Tryz.underlying5 cells8 cells64 h2
  have hc : ∀ i, i < 64 → W.cell? ⟨2, i, none⟩ = some (.int .u8 (Cc.tzL.getD i 0)) := fun i hi => hT.cell g64 i hi
  exact ⟨World.block_lt_of_cell? W ⟨2, 0, none⟩ (hc 0 (by decide)), hc⟩
/-- the door's own heap meets the condition -/
theorem door_met (os : Os) (args : Array Value) : laidMetH Tryz.prog laid2 ((World.doorLaid Tryz.prog 19 os).forCall (fun _ _ => 0) ⟨#[], args, []⟩).memory :=
  laidMetH_of_parts3 (fuel := 8) (laidMet_of_run' 8 (by kernel_rfl) (by kernel_rfl)) (by kernel_rfl) (by kernel_rfl)
end Go.Proofs.YtdklaeppcjopoaaGreatDoor
