/- RunFuel: more fuel goes on where less ended. -/
import Derived.Test.YtdklaeppcjopoaaGreatG10
import Derived.Test.YtdklaeppcjopoaaGreatG12
import Derived.Deep.DeepCutAuto
namespace Go.Proofs.YtdklaeppcjopoaaGreat
open Go.RowKit
set_option linter.unusedVariables false

theorem below_of {w w' : World} (g : w.grownBy w' none) : Below w.heap.size w w' := (Below.refl _ _).grown g (Nat.le_refl _) (by simp)
theorem RwIn.kept {k : IntKind} {w w' : World} {ao : Option Addr} {n cap : Nat} {f : Nat → Int} (h : RwIn k w ao n cap f) (g : w.grownBy w' none) : RwIn k w' ao n cap f := h.grow g (fun _ _ _ _ => by simp)
theorem PlAt.kept {w w' : World} {b o : Nat} {p : PlV} (h : PlAt w b o p) (g : w.grownBy w' none) : PlAt w' b o p := ⟨g.cell h.1 (by simp), g.cell h.2.1 (by simp), h.2.2⟩
theorem RowsIn.keptQ {α : Type} {c : Nat} {Q : World → Nat → Nat → α → Prop} {w w' : World} {a : Option Addr} {len cap : Nat} {V : Nat → α} (hQ : ∀ b o z, Q w b o z → Q w' b o z) (h : RowsIn c Q w a len cap V) (g : w.grownBy w' none) : RowsIn c Q w' a len cap V where
  nil := h.nil
  le := h.le
  max := h.max
  fits := h.fits
  bs := by
    rcases h.bs with h0 | ⟨b, off, e, hl, hq⟩
    · exact .inl h0
    · exact .inr ⟨b, off, e, Nat.lt_of_lt_of_le hl g.size, fun i hi => hQ _ _ _ (hq i hi)⟩
theorem AsAt.kept {w w' : World} {b o : Nat} {v : AsV} (h : AsAt w b o v) (g : w.grownBy w' none) : AsAt w' b o v :=
  ⟨g.cell h.c0 (by simp), g.cell h.c1 (by simp), g.cell h.c2 (by simp), h.a.keptQ (fun _ _ _ q => q.kept g) g, h.r.keptQ (fun _ _ _ q => q.kept g) g⟩
theorem AskV.In.kept {v : AskV} {w w' : World} (h : v.In w) (g : w.grownBy w' none) : v.In w' :=
  ⟨h.I.kept g, h.a.kept g, h.aw, h.k.keptQ (fun _ _ _ q => q.kept g) g, h.lc, h.ld, h.lf, h.la, h.s1, h.s2, h.f1, h.f2⟩
theorem AskAt.kept {w w' : World} {b o : Nat} {v : AskV} (h : AskAt w b o v) (g : w.grownBy w' none) : AskAt w' b o v :=
  ⟨g.cell h.c0 (by simp), g.cell h.c1 (by simp), g.cell h.c2 (by simp), g.cell h.c3 (by simp), g.cell h.c4 (by simp), g.cell h.c5 (by simp), g.cell h.c6 (by simp), g.cell h.c7 (by simp), g.cell h.c8 (by simp), h.x.kept g⟩
/-- an ask in a block of its own -/
structure AskR (W : World) (B : Nat) (v : AskV) : Prop where
  p0 : W.cell? ⟨B, 0, none⟩ = some (.int .i64 v.I.t)
  p1 : W.cell? ⟨B, 1, none⟩ = some (.slice v.I.ca v.I.cn v.I.cc)
  p2 : W.cell? ⟨B, 2, none⟩ = some (.slice v.I.da v.I.dn v.I.dc)
  p3 : W.cell? ⟨B, 3, none⟩ = some (.int .i64 v.I.en)
  p4 : W.cell? ⟨B, 4, none⟩ = some (.slice v.I.fa v.I.fn v.I.fc)
  p5 : W.cell? ⟨B, 5, none⟩ = some (.int .i64 v.S)
  p6 : W.cell? ⟨B, 6, none⟩ = some (.slice v.aa v.an v.ac)
  p7 : W.cell? ⟨B, 7, none⟩ = some (.slice v.ka v.kn v.kc)
  p8 : W.cell? ⟨B, 8, none⟩ = some (.int .i64 v.F)
theorem AskR.new (w : World) (v : AskV) : AskR (w.alloc (Obj.cells #[.int .i64 v.I.t, .slice v.I.ca v.I.cn v.I.cc, .slice v.I.da v.I.dn v.I.dc, .int .i64 v.I.en, .slice v.I.fa v.I.fn v.I.fc, .int .i64 v.S, .slice v.aa v.an v.ac, .slice v.ka v.kn v.kc, .int .i64 v.F] 31)) w.heap.size v := by
  constructor <;> simp
theorem AskR.kept {w w' : World} {B : Nat} {v : AskV} (h : AskR w B v) (g : w.grownBy w' none) : AskR w' B v :=
  ⟨g.cell h.p0 (by simp), g.cell h.p1 (by simp), g.cell h.p2 (by simp), g.cell h.p3 (by simp), g.cell h.p4 (by simp), g.cell h.p5 (by simp), g.cell h.p6 (by simp), g.cell h.p7 (by simp), g.cell h.p8 (by simp)⟩
/-- what the operations of a run's region say of their values -/
def psiK (v : AskV) (b1 : Nat) (p8 : Addr) (f9 : Int) (F base : Nat) : Nat → Value → World → Prop
  | 0 => fun x _ => x = .pointer (some ⟨b1, 0, none⟩)
  | 1 => fun x _ => x = .agg #[.int .i64 v.I.t, .slice v.I.ca v.I.cn v.I.cc, .slice v.I.da v.I.dn v.I.dc, .int .i64 v.I.en, .slice v.I.fa v.I.fn v.I.fc]
  | 2 => fun x w => ∃ ca cc da dc fa fc, x = .agg #[.int .i64 v.I.t, .slice ca v.I.cn cc, .slice da v.I.dn dc, .int .i64 v.I.en, .slice fa v.I.fn fc] ∧ (v.I.at ca cc da dc fa fc).In w
  | 3 => fun x _ => x = .pointer (some ⟨b1, 5, none⟩)
  | 4 => fun x _ => x = .int .i64 v.S
  | 5 => fun x _ => x = .pointer (some ⟨b1, 6, none⟩)
  | 6 => fun x _ => x = .slice v.aa v.an v.ac
  | 7 => fun x w => ∃ ao cap, x = .slice ao v.an cap ∧ RwIn .u64 w ao v.an cap v.ag
  | 8 => fun x _ => x = .pointer (some p8)
  | 9 => fun x _ => x = .int .i64 f9
  | 20 => fun x _ => x = .int .i64 F
  | 21 => fun x w => ∃ ao cp, x = .tuple #[.agg #[.slice ao (v.O F).length cp, .slice none 0 0, .int .i64 (v.E F), .int .i64 (v.Z F), .int .i64 (v.C F)], .int .i64 v.R] ∧ RwIn .u64 w ao (v.O F).length cp (fun i => (v.O F).getD i 0)
  | 22 => fun x w => ∃ ao cp, x = .agg #[.slice ao (v.O F).length cp, .slice none 0 0, .int .i64 (v.E F), .int .i64 (v.Z F), .int .i64 (v.C F)] ∧ RwIn .u64 w ao (v.O F).length cp (fun i => (v.O F).getD i 0)
  | 23 => fun x _ => x = .int .i64 v.R
  | 24 => fun x w => ∃ N, x = .pointer (some ⟨N, 0, none⟩) ∧ w.rowIs N 35 5 (row5 (.slice none 0 0) (.slice none 0 0) (.int .i64 0) (.int .i64 0) (.int .i64 0)) ∧ base ≤ N
  | _ => fun _ _ => True
theorem psiK_stable {v : AskV} {b1 : Nat} {p8 : Addr} {f9 : Int} {F base i : Nat} {x : Value} {w w' : World} (h : psiK v b1 p8 f9 F base i x w) (g : w.grownBy w' none) : psiK v b1 p8 f9 F base i x w' := by
  unfold psiK at h ⊢
  split at h
  · exact h
  · exact h
  · obtain ⟨ca, cc, da, dc, fa, fc, h1, h2⟩ := h; exact ⟨ca, cc, da, dc, fa, fc, h1, h2.kept g⟩
  · exact h
  · exact h
  · exact h
  · exact h
  · obtain ⟨ao, cap, h1, h2⟩ := h; exact ⟨ao, cap, h1, h2.kept g⟩
  · exact h
  · exact h
  · exact h
  · obtain ⟨ao, cap, h1, h2⟩ := h; exact ⟨ao, cap, h1, h2.kept g⟩
  · obtain ⟨ao, cap, h1, h2⟩ := h; exact ⟨ao, cap, h1, h2.kept g⟩
  · exact h
  · obtain ⟨N, h1, h2, h3⟩ := h; exact ⟨N, h1, rowIs_grown h2 g, h3⟩
  · trivial
def k7 : Nat → Nat
  | 10 => 21
  | 11 => 21
  | 12 => 22
  | 13 => 23
  | 14 => 24
  | i => i
def k8 : Nat → Nat
  | 10 => 20
  | 11 => 21
  | 12 => 21
  | 13 => 22
  | 14 => 23
  | 15 => 24
  | i => i
/-- words lie apart from a row that holds none -/
theorem rw_apart {w : World} {ao : Option Addr} {n cap : Nat} {g : Nat → Int} {X k : Nat} {T : TypeId} {f : Nat → Value} (h : RwIn .u64 w ao n cap g) (r : w.rowIs X T k f) (hT : ∀ i z, f i ≠ .int .u64 z) {b off : Nat} (h0 : 0 < n) (e : ao = some ⟨b, off, none⟩) (hb : b = X) : False := by
  obtain ⟨b', off', e', hc⟩ := h.at h0
  rw [e] at e'
  injection e' with e'
  injection e' with e1 e2
  subst e1 e2
  have c0 := hc 0 h0
  rw [Nat.add_zero, hb] at c0
  by_cases hk : off < k
  · rw [r.cell hk] at c0
    exact hT _ _ (Option.some.inj c0)
  · obtain ⟨c, h1, h2, h3⟩ := r
    simp only [World.cell?, h1] at c0
    rw [Array.getElem?_eq_none (by omega)] at c0
    cases c0
theorem row5_no64 {a b : Option Addr} {n m p q : Nat} {x y t z : Int} (i : Nat) : row5 (.slice a n p) (.slice b m q) (.int .i64 x) (.int .i64 y) (.int .i64 t) i ≠ .int .u64 z := by
  unfold row5
  split <;> intro h <;> cases h
/-- a result stored whole -/
theorem res_put {w1 w0 W0 : World} {N L cp : Nat} {ao : Option Addr} {f : Nat → Int} {x y t : Int} (hg : w1.grownBy W0 none) (hN : w1.heap.size ≤ N) (hr : W0.rowIs N 35 5 (row5 (.slice none 0 0) (.slice none 0 0) (.int .i64 0) (.int .i64 0) (.int .i64 0))) (hw : RwIn .u64 W0 ao L cp f) :
    (put5 W0 N (.slice ao L cp) (.slice none 0 0) (.int .i64 x) (.int .i64 y) (.int .i64 t)).rowIs N 35 5 (row5 (.slice ao L cp) (.slice none 0 0) (.int .i64 x) (.int .i64 y) (.int .i64 t)) ∧ RwIn .u64 (put5 W0 N (.slice ao L cp) (.slice none 0 0) (.int .i64 x) (.int .i64 y) (.int .i64 t)) ao L cp f ∧ w1.grownBy (put5 W0 N (.slice ao L cp) (.slice none 0 0) (.int .i64 x) (.int .i64 y) (.int .i64 t)) none :=
  ⟨row5_put hr _ _ _ _ _, hw.grow (grown_put5 _ _ _ _ _ _ _) (fun b off h0 e hh => rw_apart hw hr (fun i z => row5_no64 i) h0 e (by injection hh)), grown_two hg (grown_put5 _ _ _ _ _ _ _) hN⟩
/-- the calls of a run's region, wherever in it -/
theorem call_img {v : AskV} {b1 : Nat} {p8 : Addr} {f9 : Int} {F base : Nat} {W : World} (h : v.In W) (hl : v.light) :
    Calls Tryz.prog 23 #[.agg #[.int .i64 v.I.t, .slice v.I.ca v.I.cn v.I.cc, .slice v.I.da v.I.dn v.I.dc, .int .i64 v.I.en, .slice v.I.fa v.I.fn v.I.fc]] W fun e w' => ∃ x, e = .returned x ∧ W.grownBy w' none ∧ psiK v b1 p8 f9 F base 2 x w' :=
  (copyImg h.I (by have := hl.1; omega) (by have := hl.1; omega) (by have := hl.1; omega)).mono fun e w' ⟨ca, cc, da, dc, fa, fc, h1, h2, h3⟩ => ⟨_, h1, h3, ca, cc, da, dc, fa, fc, rfl, h2⟩
theorem call_words {v : AskV} {b1 : Nat} {p8 : Addr} {f9 : Int} {F base : Nat} {W : World} (h : v.In W) (hl : v.light) :
    Calls Tryz.prog 28 #[.slice v.aa v.an v.ac] W fun e w' => ∃ x, e = .returned x ∧ W.grownBy w' none ∧ psiK v b1 p8 f9 F base 7 x w' :=
  (copyW v.an v.ac v.aa v.ag W (by have := hl.1; omega) h.a).mono fun e w' ⟨ao, cap, h1, h2, h3, _⟩ => ⟨_, h1, h3, ao, cap, rfl, h2⟩
theorem call_run {v : AskV} {b1 : Nat} {p8 : Addr} {f9 : Int} {F base : Nat} {W : World} (h : v.In W) (hF : (F : Int) ≤ 1048576) {ca : Option Addr} {cc : Nat} {da : Option Addr} {dc : Nat} {fa : Option Addr} {fc : Nat} (hI : (v.I.at ca cc da dc fa fc).In W) {ao : Option Addr} {cap : Nat} (hA : RwIn .u64 W ao v.an cap v.ag) :
    Calls Tryz.prog 8 #[.agg #[.int .i64 v.I.t, .slice ca v.I.cn cc, .slice da v.I.dn dc, .int .i64 v.I.en, .slice fa v.I.fn fc], .int .i64 v.S, .slice ao v.an cap, .slice none 0 0, .int .i64 F] W fun e w' => ∃ x, e = .returned x ∧ W.grownBy w' none ∧ psiK v b1 p8 f9 F base 21 x w' :=
  (run_ask ⟨h.s1, h.s2⟩ ca cc da dc fa fc hI ao cap hA h.aw F hF).mono fun e w' ⟨ao, cp, h1, h2, h3⟩ => ⟨_, h1, h3, ao, cp, rfl, h2⟩
set_option maxRecDepth 100000 in
set_option maxHeartbeats 4000000 in
theorem runFuel_walk (a : Option Addr) (len cap : Nat) (V : Nat → AskV) (w : World) (hl : RowsIn 9 AskAt w a len cap V) :
    Calls Tryz.prog 5 #[.slice a len cap] w fun e w' => e = .returned (.bool true) ∧ Below w.heap.size w w' := by
  have HW : Hid (∀ W, Calls Tryz.prog 17 #[] W fun r w' => r = .returned (.bool true) ∧ W.grownBy w' none) := wakes5_any
  have hfit : len ≤ 140737488351232 := hl.fits
  rcases hl.bs with h0 | ⟨b, off, rfl, hlt, hV⟩
  · subst h0
    go_enter Tryz.func5, Tryz.ntmps5
    go_wp2_with fail
    refine wp_loop_once ?_
    go_wp2_with (go_at_call 17; refine (HW.out _).mono ?_; rintro r w1 ⟨rfl, g1⟩)
    go_ret
    exact ⟨rfl, below_of g1⟩
  · have HV : Hid (∀ i, i < len → AskAt w b (off + i * 9) (V i)) := hV
    clear hV hl
    go_enter Tryz.func5, Tryz.ntmps5
    go_wp2_with fail
    go_loopw [3] (fun i wr => ∃ k : Nat, i = .int .i64 k ∧ k ≤ len ∧ k ≤ 6 ∧ w.grownBy wr none) (fun i _ => len - (intOf i).toNat)
    case atStart => exact ⟨0, rfl, Nat.zero_le _, Nat.zero_le _, World.grownBy.refl _ _⟩
    case round =>
      obtain ⟨k, rfl, hk, hk6, gr⟩ := hrel
      have HG : Hid (w.grownBy wr none) := gr
      by_cases hkl : k < len
      · have hkl' : (k : Int) < len := by omega
        by_cases h6 : k < 6
        · have h6' : (k : Int) < 6 := by omega
          have HA := (HV.out k hkl).kept gr
          obtain ⟨v, hv⟩ : ∃ v, V k = v := ⟨_, rfl⟩
          rw [hv] at HA
          obtain ⟨c0, c1, c2, c3, c4, c5, c6, c7, c8, hin⟩ := HA
          have HH : Hid (∀ W, wr.grownBy W none → Calls Tryz.prog 6 #[.agg #[.int .i64 v.I.t, .slice v.I.ca v.I.cn v.I.cc, .slice v.I.da v.I.dn v.I.dc, .int .i64 v.I.en, .slice v.I.fa v.I.fn v.I.fc, .int .i64 v.S, .slice v.aa v.an v.ac, .slice v.ka v.kn v.kc, .int .i64 v.F]] W (HvP v W)) := fun W g => heavy_any (hin.kept g)
          have HIN : Hid (v.In wr) := hin
          clear hin hv gr
          go_wp2_with fail
          refine (HH.out _ (World.grownBy_alloc _ _ _)).mono ?_
          rintro r w1 ⟨bb, rfl, hlight, g1⟩
          have AR : Hid (AskR w1 wr.heap.size v) := (AskR.new wr v).kept g1
          have G1 : Hid (w.grownBy w1 none) := grown_trans HG.out (grown_trans (World.grownBy_alloc _ _ _) g1)
          cases bb
          · obtain ⟨l1, l2⟩ := hlight rfl
            have HIN1 : Hid (v.In w1) := HIN.out.kept (grown_trans (World.grownBy_alloc _ _ _) g1)
            clear c0 c1 c2 c3 c4 c5 c6 c7 c8 hlight HH g1
            have p8 := AR.out.p8
            by_cases hF1 : (3000 : Int) < v.F
            · have hF1' : decide ((3000 : Int) < v.F) = true := decide_eq_true hF1
              go_wp2
              go_ret
              exact ⟨rfl, below_of G1.out⟩
            · have hF1' : decide ((3000 : Int) < v.F) = false := decide_eq_false hF1
              by_cases hF0 : v.F < 0
              · have hF0' : decide (v.F < 0) = true := decide_eq_true hF0
                go_wp2
                go_ret
                exact ⟨rfl, below_of G1.out⟩
              · have hF0' : decide (v.F < 0) = false := decide_eq_false hF0
                obtain ⟨b1, hb1⟩ : ∃ b1, b1 = wr.heap.size := ⟨_, rfl⟩
                rw [← hb1] at AR p8 ⊢
                clear hb1
                have HL : Hid v.light := ⟨l1, l2⟩
                go_wp2_with fail
                clear p8
                obtain ⟨F, hF⟩ : ∃ F : Nat, v.F = F := ⟨v.F.toNat, by omega⟩
                have hF20 : (F : Int) ≤ 1048576 := by omega
                have HF3 : Hid (F ≤ 3000) := by show F ≤ 3000; omega
                have HFv : Hid (v.F = F) := hF
                clear hF
                go_cut [5, 6] (fun p e wx => ∃ N ao cp, p = .pointer (some ⟨N, 0, none⟩) ∧ e = .int .i64 v.R ∧ wx.rowIs N 35 5 (row5 (.slice ao (v.O F).length cp) (.slice none 0 0) (.int .i64 (v.E F)) (.int .i64 (v.Z F)) (.int .i64 (v.C F))) ∧ RwIn .u64 wx ao (v.O F).length cp (fun i => (v.O F).getD i 0) ∧ w1.grownBy wx none)
                case first =>
                  refine region_late 15 13 _ _ _ (fun i => psiK v b1 ⟨b1, 8, none⟩ (F : Int) F w1.heap.size (k7 i)) (by kernel_rfl) (by kernel_rfl) rfl rfl rfl (by kernel_rfl) (by kernel_rfl) (fun i x w0 w1 hi h g => psiK_stable h g) ?_ ?_ ?_
                  · simp only [List.take_succ_cons, List.take_zero]
                    refine ⟨?_, ?_, ?_, ?_, ?_, ?_, ?_, ?_, ?_, ?_, ?_, ?_, ?_, ?_, ?_, trivial⟩
                    · intro V W0 A g hV hs h0
                      have e04 := h0 4 (.pointer (some ⟨b1, 0, none⟩)) (by kernel_rfl) rfl
                      clear hV hs h0
                      refine outO_val (v := .pointer (some ⟨b1, 0, none⟩)) (w' := W0) ?_ (World.grownBy.refl _ _) rfl
                      simp [go_sem, e04]
                    · intro V W0 A g hV hs h0
                      have hA := AR.out.kept (grown_trans (grown_drew (World.grownBy.refl _ none)) g)
                      have hIn := HIN1.out.kept (grown_trans (grown_drew (World.grownBy.refl _ none)) g)
                      have h0' : V 0 = _ := hV 0 (by kernel_rfl)
                      have e0 := hs 38 0 (by kernel_rfl) (by kernel_rfl)
                      clear hV hs h0
                      refine outO_val (v := .agg #[.int .i64 v.I.t, .slice v.I.ca v.I.cn v.I.cc, .slice v.I.da v.I.dn v.I.dc, .int .i64 v.I.en, .slice v.I.fa v.I.fn v.I.fc]) (w' := W0) ?_ (World.grownBy.refl _ _) rfl
                      simp [go_sem, e0, h0', hA.p0, hA.p1, hA.p2, hA.p3, hA.p4]
                    · intro V W0 A g hV hs h0
                      have hA := AR.out.kept (grown_trans (grown_drew (World.grownBy.refl _ none)) g)
                      have hIn := HIN1.out.kept (grown_trans (grown_drew (World.grownBy.refl _ none)) g)
                      have h1 : V 1 = _ := hV 1 (by kernel_rfl)
                      have e1 := hs 39 1 (by kernel_rfl) (by kernel_rfl)
                      clear hV hs h0
                      refine outO_call (f := 23) ?_ (call_img hIn HL.out)
                      simp [go_sem, e1, h1]
                    · intro V W0 A g hV hs h0
                      have e04 := h0 4 (.pointer (some ⟨b1, 0, none⟩)) (by kernel_rfl) rfl
                      clear hV hs h0
                      refine outO_val (v := .pointer (some ⟨b1, 5, none⟩)) (w' := W0) ?_ (World.grownBy.refl _ _) rfl
                      simp [go_sem, e04]
                    · intro V W0 A g hV hs h0
                      have hA := AR.out.kept (grown_trans (grown_drew (World.grownBy.refl _ none)) g)
                      have hIn := HIN1.out.kept (grown_trans (grown_drew (World.grownBy.refl _ none)) g)
                      have h3 : V 3 = _ := hV 3 (by kernel_rfl)
                      have e3 := hs 41 3 (by kernel_rfl) (by kernel_rfl)
                      clear hV hs h0
                      refine outO_val (v := .int .i64 v.S) (w' := W0) ?_ (World.grownBy.refl _ _) rfl
                      simp [go_sem, e3, h3, hA.p5]
                    · intro V W0 A g hV hs h0
                      have e04 := h0 4 (.pointer (some ⟨b1, 0, none⟩)) (by kernel_rfl) rfl
                      clear hV hs h0
                      refine outO_val (v := .pointer (some ⟨b1, 6, none⟩)) (w' := W0) ?_ (World.grownBy.refl _ _) rfl
                      simp [go_sem, e04]
                    · intro V W0 A g hV hs h0
                      have hA := AR.out.kept (grown_trans (grown_drew (World.grownBy.refl _ none)) g)
                      have hIn := HIN1.out.kept (grown_trans (grown_drew (World.grownBy.refl _ none)) g)
                      have h5 : V 5 = _ := hV 5 (by kernel_rfl)
                      have e5 := hs 43 5 (by kernel_rfl) (by kernel_rfl)
                      clear hV hs h0
                      refine outO_val (v := .slice v.aa v.an v.ac) (w' := W0) ?_ (World.grownBy.refl _ _) rfl
                      simp [go_sem, e5, h5, hA.p6]
                    · intro V W0 A g hV hs h0
                      have hA := AR.out.kept (grown_trans (grown_drew (World.grownBy.refl _ none)) g)
                      have hIn := HIN1.out.kept (grown_trans (grown_drew (World.grownBy.refl _ none)) g)
                      have h6 : V 6 = _ := hV 6 (by kernel_rfl)
                      have e6 := hs 44 6 (by kernel_rfl) (by kernel_rfl)
                      clear hV hs h0
                      refine outO_call (f := 28) ?_ (call_words hIn HL.out)
                      simp [go_sem, e6, h6]
                    · intro V W0 A g hV hs h0
                      have e04 := h0 4 (.pointer (some ⟨b1, 0, none⟩)) (by kernel_rfl) rfl
                      clear hV hs h0
                      refine outO_val (v := .pointer (some ⟨b1, 8, none⟩)) (w' := W0) ?_ (World.grownBy.refl _ _) rfl
                      simp [go_sem, e04]
                    · intro V W0 A g hV hs h0
                      have hA := AR.out.kept (grown_trans (grown_drew (World.grownBy.refl _ none)) g)
                      have hIn := HIN1.out.kept (grown_trans (grown_drew (World.grownBy.refl _ none)) g)
                      have h8 : V 8 = _ := hV 8 (by kernel_rfl)
                      have e8 := hs 46 8 (by kernel_rfl) (by kernel_rfl)
                      have q9 := hA.p8
                      rw [HFv.out] at q9
                      clear hV hs h0
                      refine outO_val (v := .int .i64 (F : Int)) (w' := W0) ?_ (World.grownBy.refl _ _) rfl
                      simp [go_sem, e8, h8, q9]
                    · intro V W0 A g hV hs h0
                      have hA := AR.out.kept (grown_trans (grown_drew (World.grownBy.refl _ none)) g)
                      have hIn := HIN1.out.kept (grown_trans (grown_drew (World.grownBy.refl _ none)) g)
                      obtain ⟨ca, cc, da, dc, fa, fc, h2, i2⟩ := hV 2 (by kernel_rfl)
                      have h4 : V 4 = _ := hV 4 (by kernel_rfl)
                      obtain ⟨ao, cap, h7, i7⟩ := hV 7 (by kernel_rfl)
                      have h9 : V 9 = _ := hV 9 (by kernel_rfl)
                      have e2 := hs 40 2 (by kernel_rfl) (by kernel_rfl)
                      have e4 := hs 42 4 (by kernel_rfl) (by kernel_rfl)
                      have e7 := hs 45 7 (by kernel_rfl) (by kernel_rfl)
                      have e9 := hs 47 9 (by kernel_rfl) (by kernel_rfl)
                      clear hV hs h0
                      refine outO_call (f := 8) ?_ (call_run hIn hF20 i2 i7)
                      simp [go_sem, e2, e4, e7, e9, h2, h4, h7, h9]
                    · intro V W0 A g hV hs h0
                      obtain ⟨ao, cp, h10, i10⟩ := hV 10 (by kernel_rfl)
                      have e10 := hs 48 10 (by kernel_rfl) (by kernel_rfl)
                      clear hV hs h0
                      exact outO_val (v := V 10) (w' := W0) (by simp [go_sem, e10]) (World.grownBy.refl _ _) ⟨ao, cp, h10, i10⟩
                    · intro V W0 A g hV hs h0
                      obtain ⟨ao, cp, h11, i11⟩ := hV 11 (by kernel_rfl)
                      have e11 := hs 37 11 (by kernel_rfl) (by kernel_rfl)
                      clear hV hs h0
                      refine outO_val (v := .agg #[.slice ao (v.O F).length cp, .slice none 0 0, .int .i64 (v.E F), .int .i64 (v.Z F), .int .i64 (v.C F)]) (w' := W0) ?_ (World.grownBy.refl _ _) ⟨ao, cp, rfl, i11⟩
                      simp [go_sem, e11, h11]
                    · intro V W0 A g hV hs h0
                      obtain ⟨ao, cp, h11, i11⟩ := hV 11 (by kernel_rfl)
                      have e11 := hs 37 11 (by kernel_rfl) (by kernel_rfl)
                      clear hV hs h0
                      refine outO_val (v := .int .i64 v.R) (w' := W0) ?_ (World.grownBy.refl _ _) rfl
                      simp [go_sem, e11, h11]
                    · intro V W0 A g hV hs h0
                      clear hV hs h0
                      refine outO_val (v := .pointer (some ⟨W0.heap.size, 0, none⟩)) (w' := W0.alloc (Obj.cells #[.slice none 0 0, .slice none 0 0, .int .i64 0, .int .i64 0, .int .i64 0] 35)) ?_ (World.grownBy_alloc _ _ _) ⟨W0.heap.size, rfl, row5_new _ _ _ _ _ _ _, by have := g.size; exact this⟩
                      simp [go_sem]
                  · intro V W0 g hV
                    have h0 : V 0 = _ := hV 0 (by decide)
                    have h1 : V 1 = _ := hV 1 (by decide)
                    have h3 : V 3 = _ := hV 3 (by decide)
                    have h4 : V 4 = _ := hV 4 (by decide)
                    have h5 : V 5 = _ := hV 5 (by decide)
                    have h6 : V 6 = _ := hV 6 (by decide)
                    have h8 : V 8 = _ := hV 8 (by decide)
                    have h9 : V 9 = _ := hV 9 (by decide)
                    obtain ⟨ca, cc, da, dc, fa, fc, h2, _⟩ := hV 2 (by decide)
                    obtain ⟨ao7, cap7, h7, _⟩ := hV 7 (by decide)
                    obtain ⟨ao10, cp10, h10, _⟩ := hV 10 (by decide)
                    obtain ⟨ao11, cp11, h11, _⟩ := hV 11 (by decide)
                    obtain ⟨ao, cp, h12, hrw⟩ := hV 12 (by decide)
                    have h13 : V 13 = _ := hV 13 (by decide)
                    obtain ⟨N, h14, hrow, hN⟩ := hV 14 (by decide)
                    have HG2 : Hid (w.grownBy W0 none) := grown_trans G1.out (grown_trans (grown_drew (World.grownBy.refl _ none)) g)
                    have HR2 : Hid (W0.rowIs N 35 5 (row5 (.slice none 0 0) (.slice none 0 0) (.int .i64 0) (.int .i64 0) (.int .i64 0))) := hrow
                    have HRW : Hid (RwIn .u64 W0 ao (v.O F).length cp (fun i => (v.O F).getD i 0)) := hrw
                    obtain ⟨z0, z1, z2, z3, z4, zz⟩ := rowIs_five hrow
                    simp [frV, dstOf, Act.put, h0, h1, h2, h3, h4, h5, h6, h7, h8, h9, h10, h11, h12, h13, h14]
                    clear h0 h1 h2 h3 h4 h5 h6 h7 h8 h9 h10 h11 h12 h13 h14 hV hrow hrw
                    obtain ⟨L, hL⟩ : ∃ L, L = (v.O F).length := ⟨_, rfl⟩
                    rw [← hL] at HRW ⊢
                    have HLn : Hid (L = (v.O F).length) := hL
                    clear hL
                    go_wp2_with fail
                    go_meet
                    rw [← HLn.out]
                    exact ⟨N, ao, cp, rfl, rfl, res_put (w0 := w1) (grown_trans (grown_drew (World.grownBy.refl _ none)) g) hN HR2.out HRW.out⟩
                  · intro V W0 g hV hold
                    have h0 : V 0 = _ := hV 0 (by decide) (by decide)
                    have h1 : V 1 = _ := hV 1 (by decide) (by decide)
                    have h3 : V 3 = _ := hV 3 (by decide) (by decide)
                    have h4 : V 4 = _ := hV 4 (by decide) (by decide)
                    have h5 : V 5 = _ := hV 5 (by decide) (by decide)
                    have h6 : V 6 = _ := hV 6 (by decide) (by decide)
                    have h8 : V 8 = _ := hV 8 (by decide) (by decide)
                    have h9 : V 9 = _ := hV 9 (by decide) (by decide)
                    obtain ⟨ca, cc, da, dc, fa, fc, h2, _⟩ := hV 2 (by decide) (by decide)
                    obtain ⟨ao7, cap7, h7, _⟩ := hV 7 (by decide) (by decide)
                    obtain ⟨ao10, cp10, h10, _⟩ := hV 10 (by decide) (by decide)
                    obtain ⟨ao11, cp11, h11, _⟩ := hV 11 (by decide) (by decide)
                    obtain ⟨ao, cp, h12, hrw⟩ := hV 12 (by decide) (by decide)
                    obtain ⟨y, h13⟩ : ∃ y, V 13 = y := ⟨_, rfl⟩
                    obtain ⟨N, h14, hrow, hN⟩ := hV 14 (by decide) (by decide)
                    have HG2 : Hid (w.grownBy W0 none) := grown_trans G1.out (grown_trans (grown_drew (World.grownBy.refl _ none)) g)
                    have HR2 : Hid (W0.rowIs N 35 5 (row5 (.slice none 0 0) (.slice none 0 0) (.int .i64 0) (.int .i64 0) (.int .i64 0))) := hrow
                    have HRW : Hid (RwIn .u64 W0 ao (v.O F).length cp (fun i => (v.O F).getD i 0)) := hrw
                    obtain ⟨z0, z1, z2, z3, z4, zz⟩ := rowIs_five hrow
                    simp [frV, dstOf, Act.put, h0, h1, h2, h3, h4, h5, h6, h7, h8, h9, h10, h11, h12, h13, h14]
                    clear h0 h1 h2 h3 h4 h5 h6 h7 h8 h9 h10 h11 h12 h13 h14 hV hrow hrw hold
                    obtain ⟨L, hL⟩ : ∃ L, L = (v.O F).length := ⟨_, rfl⟩
                    rw [← hL] at HRW ⊢
                    have HLn : Hid (L = (v.O F).length) := hL
                    clear hL
                    go_wp2_with fail
                    go_meet
                    rw [← HLn.out]
                    exact ⟨N, ao, cp, rfl, rfl, res_put (w0 := w1) (grown_trans (grown_drew (World.grownBy.refl _ none)) g) hN HR2.out HRW.out⟩
                case rest =>
                  obtain ⟨NA, aA, cA, rfl, rfl, hrowA, hrww2, g2⟩ := hcut
                  obtain ⟨w2, hwc⟩ : ∃ x, x = wc := ⟨_, rfl⟩
                  rw [← hwc] at hrowA hrww2 g2 ⊢
                  clear hwc
                  have AR2 : Hid (AskR w2 b1 v) := AR.out.kept g2
                  have HIN2 : Hid (v.In w2) := HIN1.out.kept g2
                  have G2 : Hid (w.grownBy w2 none) := grown_trans G1.out g2
                  clear AR HIN1 G1
                  have AR := AR2
                  have HIN1 := HIN2
                  have G1 := G2
                  clear AR2 HIN2 G2
                  obtain ⟨F2, hF2⟩ : ∃ F2, F2 = F + 200 := ⟨_, rfl⟩
                  have hF20' : (F2 : Int) ≤ 1048576 := by have := HF3.out; omega
                  clear hF20
                  have hF20 := hF20'
                  clear hF20'
                  have hsum : IntKind.i64.wrap ((F : Int) + 200) = (F2 : Int) := by
                    have := HF3.out
                    rw [IntKind.wrap_i64]
                    omega
                  have hsum2 : ((F : Int) + 200) = (F2 : Int) := by omega
                  have HF2 : Hid (F2 = F + 200) := hF2
                  have RA : Hid (w2.rowIs NA 35 5 (row5 (.slice aA (v.O F).length cA) (.slice none 0 0) (.int .i64 (v.E F)) (.int .i64 (v.Z F)) (.int .i64 (v.C F)))) := hrowA
                  have RWA : Hid (RwIn .u64 w2 aA (v.O F).length cA (fun i => (v.O F).getD i 0)) := hrww2
                  clear hrowA hrww2 g2 hF2
                  go_wp2_with fail
                  go_cut [7, 8] (fun p e wx => ∃ N ao cp, p = .pointer (some ⟨N, 0, none⟩) ∧ e = .int .i64 v.R ∧ wx.rowIs N 35 5 (row5 (.slice ao (v.O F2).length cp) (.slice none 0 0) (.int .i64 (v.E F2)) (.int .i64 (v.Z F2)) (.int .i64 (v.C F2))) ∧ RwIn .u64 wx ao (v.O F2).length cp (fun i => (v.O F2).getD i 0) ∧ w2.grownBy wx none)
                  case first =>
                    refine region_late 16 14 _ _ _ (fun i => psiK v b1 ⟨b1, 8, none⟩ (F : Int) F2 w2.heap.size (k8 i)) (by kernel_rfl) (by kernel_rfl) rfl rfl rfl (by kernel_rfl) (by kernel_rfl) (fun i x w0 w1 hi h g => psiK_stable h g) ?_ ?_ ?_
                    · simp only [List.take_succ_cons, List.take_zero]
                      refine ⟨?_, ?_, ?_, ?_, ?_, ?_, ?_, ?_, ?_, ?_, ?_, ?_, ?_, ?_, ?_, ?_, trivial⟩
                      · intro V W0 A g hV hs h0
                        have e04 := h0 4 (.pointer (some ⟨b1, 0, none⟩)) (by kernel_rfl) rfl
                        clear hV hs h0
                        refine outO_val (v := .pointer (some ⟨b1, 0, none⟩)) (w' := W0) ?_ (World.grownBy.refl _ _) rfl
                        simp [go_sem, e04]
                      · intro V W0 A g hV hs h0
                        have hA := AR.out.kept (grown_trans (grown_drew (World.grownBy.refl _ none)) g)
                        have hIn := HIN1.out.kept (grown_trans (grown_drew (World.grownBy.refl _ none)) g)
                        have h0' : V 0 = _ := hV 0 (by kernel_rfl)
                        have e0 := hs 52 0 (by kernel_rfl) (by kernel_rfl)
                        clear hV hs h0
                        refine outO_val (v := .agg #[.int .i64 v.I.t, .slice v.I.ca v.I.cn v.I.cc, .slice v.I.da v.I.dn v.I.dc, .int .i64 v.I.en, .slice v.I.fa v.I.fn v.I.fc]) (w' := W0) ?_ (World.grownBy.refl _ _) rfl
                        simp [go_sem, e0, h0', hA.p0, hA.p1, hA.p2, hA.p3, hA.p4]
                      · intro V W0 A g hV hs h0
                        have hA := AR.out.kept (grown_trans (grown_drew (World.grownBy.refl _ none)) g)
                        have hIn := HIN1.out.kept (grown_trans (grown_drew (World.grownBy.refl _ none)) g)
                        have h1 : V 1 = _ := hV 1 (by kernel_rfl)
                        have e1 := hs 53 1 (by kernel_rfl) (by kernel_rfl)
                        clear hV hs h0
                        refine outO_call (f := 23) ?_ (call_img hIn HL.out)
                        simp [go_sem, e1, h1]
                      · intro V W0 A g hV hs h0
                        have e04 := h0 4 (.pointer (some ⟨b1, 0, none⟩)) (by kernel_rfl) rfl
                        clear hV hs h0
                        refine outO_val (v := .pointer (some ⟨b1, 5, none⟩)) (w' := W0) ?_ (World.grownBy.refl _ _) rfl
                        simp [go_sem, e04]
                      · intro V W0 A g hV hs h0
                        have hA := AR.out.kept (grown_trans (grown_drew (World.grownBy.refl _ none)) g)
                        have hIn := HIN1.out.kept (grown_trans (grown_drew (World.grownBy.refl _ none)) g)
                        have h3 : V 3 = _ := hV 3 (by kernel_rfl)
                        have e3 := hs 55 3 (by kernel_rfl) (by kernel_rfl)
                        clear hV hs h0
                        refine outO_val (v := .int .i64 v.S) (w' := W0) ?_ (World.grownBy.refl _ _) rfl
                        simp [go_sem, e3, h3, hA.p5]
                      · intro V W0 A g hV hs h0
                        have e04 := h0 4 (.pointer (some ⟨b1, 0, none⟩)) (by kernel_rfl) rfl
                        clear hV hs h0
                        refine outO_val (v := .pointer (some ⟨b1, 6, none⟩)) (w' := W0) ?_ (World.grownBy.refl _ _) rfl
                        simp [go_sem, e04]
                      · intro V W0 A g hV hs h0
                        have hA := AR.out.kept (grown_trans (grown_drew (World.grownBy.refl _ none)) g)
                        have hIn := HIN1.out.kept (grown_trans (grown_drew (World.grownBy.refl _ none)) g)
                        have h5 : V 5 = _ := hV 5 (by kernel_rfl)
                        have e5 := hs 57 5 (by kernel_rfl) (by kernel_rfl)
                        clear hV hs h0
                        refine outO_val (v := .slice v.aa v.an v.ac) (w' := W0) ?_ (World.grownBy.refl _ _) rfl
                        simp [go_sem, e5, h5, hA.p6]
                      · intro V W0 A g hV hs h0
                        have hA := AR.out.kept (grown_trans (grown_drew (World.grownBy.refl _ none)) g)
                        have hIn := HIN1.out.kept (grown_trans (grown_drew (World.grownBy.refl _ none)) g)
                        have h6 : V 6 = _ := hV 6 (by kernel_rfl)
                        have e6 := hs 58 6 (by kernel_rfl) (by kernel_rfl)
                        clear hV hs h0
                        refine outO_call (f := 28) ?_ (call_words hIn HL.out)
                        simp [go_sem, e6, h6]
                      · intro V W0 A g hV hs h0
                        have e04 := h0 4 (.pointer (some ⟨b1, 0, none⟩)) (by kernel_rfl) rfl
                        clear hV hs h0
                        refine outO_val (v := .pointer (some ⟨b1, 8, none⟩)) (w' := W0) ?_ (World.grownBy.refl _ _) rfl
                        simp [go_sem, e04]
                      · intro V W0 A g hV hs h0
                        have hA := AR.out.kept (grown_trans (grown_drew (World.grownBy.refl _ none)) g)
                        have hIn := HIN1.out.kept (grown_trans (grown_drew (World.grownBy.refl _ none)) g)
                        have h8 : V 8 = _ := hV 8 (by kernel_rfl)
                        have e8 := hs 60 8 (by kernel_rfl) (by kernel_rfl)
                        have q9 := hA.p8
                        rw [HFv.out] at q9
                        clear hV hs h0
                        refine outO_val (v := .int .i64 (F : Int)) (w' := W0) ?_ (World.grownBy.refl _ _) rfl
                        simp [go_sem, e8, h8, q9]
                      · intro V W0 A g hV hs h0
                        have h9 : V 9 = _ := hV 9 (by kernel_rfl)
                        have e9 := hs 61 9 (by kernel_rfl) (by kernel_rfl)
                        clear hV hs h0
                        refine outO_val (v := .int .i64 F2) (w' := W0) ?_ (World.grownBy.refl _ _) rfl
                        simp [go_sem, e9, h9, hsum]
                      · intro V W0 A g hV hs h0
                        have hA := AR.out.kept (grown_trans (grown_drew (World.grownBy.refl _ none)) g)
                        have hIn := HIN1.out.kept (grown_trans (grown_drew (World.grownBy.refl _ none)) g)
                        obtain ⟨ca, cc, da, dc, fa, fc, h2, i2⟩ := hV 2 (by kernel_rfl)
                        have h4 : V 4 = _ := hV 4 (by kernel_rfl)
                        obtain ⟨ao, cap, h7, i7⟩ := hV 7 (by kernel_rfl)
                        have h10 : V 10 = _ := hV 10 (by kernel_rfl)
                        have e2 := hs 54 2 (by kernel_rfl) (by kernel_rfl)
                        have e4 := hs 56 4 (by kernel_rfl) (by kernel_rfl)
                        have e7 := hs 59 7 (by kernel_rfl) (by kernel_rfl)
                        have e10 := hs 62 10 (by kernel_rfl) (by kernel_rfl)
                        clear hV hs h0
                        refine outO_call (f := 8) ?_ (call_run hIn hF20 i2 i7)
                        simp [go_sem, e2, e4, e7, e10, h2, h4, h7, h10]
                      · intro V W0 A g hV hs h0
                        obtain ⟨ao, cp, h11, i11⟩ := hV 11 (by kernel_rfl)
                        have e11 := hs 63 11 (by kernel_rfl) (by kernel_rfl)
                        clear hV hs h0
                        exact outO_val (v := V 11) (w' := W0) (by simp [go_sem, e11]) (World.grownBy.refl _ _) ⟨ao, cp, h11, i11⟩
                      · intro V W0 A g hV hs h0
                        obtain ⟨ao, cp, h12, i12⟩ := hV 12 (by kernel_rfl)
                        have e12 := hs 51 12 (by kernel_rfl) (by kernel_rfl)
                        clear hV hs h0
                        refine outO_val (v := .agg #[.slice ao (v.O F2).length cp, .slice none 0 0, .int .i64 (v.E F2), .int .i64 (v.Z F2), .int .i64 (v.C F2)]) (w' := W0) ?_ (World.grownBy.refl _ _) ⟨ao, cp, rfl, i12⟩
                        simp [go_sem, e12, h12]
                      · intro V W0 A g hV hs h0
                        obtain ⟨ao, cp, h12, i12⟩ := hV 12 (by kernel_rfl)
                        have e12 := hs 51 12 (by kernel_rfl) (by kernel_rfl)
                        clear hV hs h0
                        refine outO_val (v := .int .i64 v.R) (w' := W0) ?_ (World.grownBy.refl _ _) rfl
                        simp [go_sem, e12, h12]
                      · intro V W0 A g hV hs h0
                        clear hV hs h0
                        refine outO_val (v := .pointer (some ⟨W0.heap.size, 0, none⟩)) (w' := W0.alloc (Obj.cells #[.slice none 0 0, .slice none 0 0, .int .i64 0, .int .i64 0, .int .i64 0] 35)) ?_ (World.grownBy_alloc _ _ _) ⟨W0.heap.size, rfl, row5_new _ _ _ _ _ _ _, by have := g.size; exact this⟩
                        simp [go_sem]
                    · intro V W0 g hV
                      have h0 : V 0 = _ := hV 0 (by decide)
                      have h1 : V 1 = _ := hV 1 (by decide)
                      have h3 : V 3 = _ := hV 3 (by decide)
                      have h4 : V 4 = _ := hV 4 (by decide)
                      have h5 : V 5 = _ := hV 5 (by decide)
                      have h6 : V 6 = _ := hV 6 (by decide)
                      have h8 : V 8 = _ := hV 8 (by decide)
                      have h9 : V 9 = _ := hV 9 (by decide)
                      have h10 : V 10 = _ := hV 10 (by decide)
                      obtain ⟨ca, cc, da, dc, fa, fc, h2, _⟩ := hV 2 (by decide)
                      obtain ⟨ao7, cap7, h7, _⟩ := hV 7 (by decide)
                      obtain ⟨ao10, cp10, h11, _⟩ := hV 11 (by decide)
                      obtain ⟨ao11, cp11, h12, _⟩ := hV 12 (by decide)
                      obtain ⟨ao, cp, h13, hrw⟩ := hV 13 (by decide)
                      have h14 : V 14 = _ := hV 14 (by decide)
                      obtain ⟨N, h15, hrow, hN⟩ := hV 15 (by decide)
                      have HG2 : Hid (w.grownBy W0 none) := grown_trans G1.out (grown_trans (grown_drew (World.grownBy.refl _ none)) g)
                      have HR2 : Hid (W0.rowIs N 35 5 (row5 (.slice none 0 0) (.slice none 0 0) (.int .i64 0) (.int .i64 0) (.int .i64 0))) := hrow
                      have HRW : Hid (RwIn .u64 W0 ao (v.O F2).length cp (fun i => (v.O F2).getD i 0)) := hrw
                      obtain ⟨z0, z1, z2, z3, z4, zz⟩ := rowIs_five hrow
                      simp [frV, dstOf, Act.put, h0, h1, h2, h3, h4, h5, h6, h7, h8, h9, h10, h11, h12, h13, h14, h15]
                      clear h0 h1 h2 h3 h4 h5 h6 h7 h8 h9 h10 h11 h12 h13 h14 h15 hV hrow hrw
                      obtain ⟨L, hL⟩ : ∃ L, L = (v.O F2).length := ⟨_, rfl⟩
                      rw [← hL] at HRW ⊢
                      have HLn : Hid (L = (v.O F2).length) := hL
                      clear hL
                      go_wp2_with fail
                      go_meet
                      rw [← HLn.out]
                      exact ⟨N, ao, cp, rfl, rfl, res_put (w0 := w2) (grown_trans (grown_drew (World.grownBy.refl _ none)) g) hN HR2.out HRW.out⟩
                    · intro V W0 g hV hold
                      have h0 : V 0 = _ := hV 0 (by decide) (by decide)
                      have h1 : V 1 = _ := hV 1 (by decide) (by decide)
                      have h3 : V 3 = _ := hV 3 (by decide) (by decide)
                      have h4 : V 4 = _ := hV 4 (by decide) (by decide)
                      have h5 : V 5 = _ := hV 5 (by decide) (by decide)
                      have h6 : V 6 = _ := hV 6 (by decide) (by decide)
                      have h8 : V 8 = _ := hV 8 (by decide) (by decide)
                      have h9 : V 9 = _ := hV 9 (by decide) (by decide)
                      have h10 : V 10 = _ := hV 10 (by decide) (by decide)
                      obtain ⟨ca, cc, da, dc, fa, fc, h2, _⟩ := hV 2 (by decide) (by decide)
                      obtain ⟨ao7, cap7, h7, _⟩ := hV 7 (by decide) (by decide)
                      obtain ⟨ao10, cp10, h11, _⟩ := hV 11 (by decide) (by decide)
                      obtain ⟨ao11, cp11, h12, _⟩ := hV 12 (by decide) (by decide)
                      obtain ⟨ao, cp, h13, hrw⟩ := hV 13 (by decide) (by decide)
                      obtain ⟨y, h14⟩ : ∃ y, V 14 = y := ⟨_, rfl⟩
                      obtain ⟨N, h15, hrow, hN⟩ := hV 15 (by decide) (by decide)
                      have HG2 : Hid (w.grownBy W0 none) := grown_trans G1.out (grown_trans (grown_drew (World.grownBy.refl _ none)) g)
                      have HR2 : Hid (W0.rowIs N 35 5 (row5 (.slice none 0 0) (.slice none 0 0) (.int .i64 0) (.int .i64 0) (.int .i64 0))) := hrow
                      have HRW : Hid (RwIn .u64 W0 ao (v.O F2).length cp (fun i => (v.O F2).getD i 0)) := hrw
                      obtain ⟨z0, z1, z2, z3, z4, zz⟩ := rowIs_five hrow
                      simp [frV, dstOf, Act.put, h0, h1, h2, h3, h4, h5, h6, h7, h8, h9, h10, h11, h12, h13, h14, h15]
                      clear h0 h1 h2 h3 h4 h5 h6 h7 h8 h9 h10 h11 h12 h13 h14 h15 hV hrow hrw hold
                      obtain ⟨L, hL⟩ : ∃ L, L = (v.O F2).length := ⟨_, rfl⟩
                      rw [← hL] at HRW ⊢
                      have HLn : Hid (L = (v.O F2).length) := hL
                      clear hL
                      go_wp2_with fail
                      go_meet
                      rw [← HLn.out]
                      exact ⟨N, ao, cp, rfl, rfl, res_put (w0 := w2) (grown_trans (grown_drew (World.grownBy.refl _ none)) g) hN HR2.out HRW.out⟩
                  case rest =>
                    obtain ⟨NB, aB, cB, rfl, rfl, hrowB, hrww3, g2⟩ := hcut
                    obtain ⟨w3, hwc⟩ : ∃ x, x = wc := ⟨_, rfl⟩
                    rw [← hwc] at hrowB hrww3 g2 ⊢
                    clear hwc
                    have AR2 : Hid (AskR w3 b1 v) := AR.out.kept g2
                    have HIN2 : Hid (v.In w3) := HIN1.out.kept g2
                    have G2 : Hid (w.grownBy w3 none) := grown_trans G1.out g2
                    clear AR HIN1 G1
                    have AR := AR2
                    have HIN1 := HIN2
                    have G1 := G2
                    clear AR2 HIN2 G2
                    have RA3 : Hid (w3.rowIs NA 35 5 (row5 (.slice aA (v.O F).length cA) (.slice none 0 0) (.int .i64 (v.E F)) (.int .i64 (v.Z F)) (.int .i64 (v.C F)))) := rowIs_grown RA.out g2
                    have RWA3 : Hid (RwIn .u64 w3 aA (v.O F).length cA (fun i => (v.O F).getD i 0)) := RWA.out.kept g2
                    have RB : Hid (w3.rowIs NB 35 5 (row5 (.slice aB (v.O F2).length cB) (.slice none 0 0) (.int .i64 (v.E F2)) (.int .i64 (v.Z F2)) (.int .i64 (v.C F2)))) := hrowB
                    have RWB : Hid (RwIn .u64 w3 aB (v.O F2).length cB (fun i => (v.O F2).getD i 0)) := hrww3
                    clear hrowB hrww3 g2 RA RWA hsum hsum2
                    cases hm : v.may
                    · have hR : v.R = 50 := by unfold AskV.R; rw [hm]; rfl
                      clear hm
                      generalize v.R = R at *
                      subst hR
                      go_wp2_with (go_at_call 13; refine (num5_any _ _).mono ?_; rintro r wn ⟨rfl, hwn⟩; rw [hwn]; clear hwn wn)
                      go_roundw
                      case rel => exact ⟨k + 1, by go_num, by omega, by omega, G1.out⟩
                      case measure => simp [intOf]; omega
                    · have hR : v.R = 0 := by unfold AskV.R; rw [hm]; rfl
                      have HM : Hid (v.may = true) := hm
                      clear hm
                      have HBg : Hid (∀ W, w3.grownBy W none → Calls Tryz.prog 29 #[.slice aA (v.O F).length cA, .slice aB (v.O F2).length cB] W fun r w' => r = .returned (.bool true) ∧ W.grownBy w' none) := fun W g => by
                        obtain ⟨l, hl⟩ := v.O_begins F
                        rw [← HF2.out] at hl
                        refine begins_true (RWA3.out.kept g) (RWB.out.kept g) ?_ ?_ ?_
                        · have := v.O_len F2; omega
                        · rw [hl, List.length_append]; omega
                        · intro i hi
                          rw [hl]
                          simp [List.getD_eq_getElem?_getD, List.getElem?_append_left hi]
                      have HEq : Hid (v.E F ≠ 3 → ∀ W, w3.grownBy W none → Calls Tryz.prog 14 #[.agg #[.slice aA (v.O F).length cA, .slice none 0 0, .int .i64 (v.E F), .int .i64 (v.Z F), .int .i64 (v.C F)], .agg #[.slice aB (v.O F2).length cB, .slice none 0 0, .int .i64 (v.E F2), .int .i64 (v.Z F2), .int .i64 (v.C F2)]] W fun r w' => r = .returned (.bool true) ∧ W.grownBy w' none) := fun hE W g => by
                        have he := v.ended F HM.out hE
                        rw [← HF2.out] at he
                        have r2 := RWB.out
                        rw [he.1] at r2
                        rw [he.1, he.2.1, he.2.2.1, he.2.2.2]
                        exact eqRun_true (RWA3.out.kept g) (r2.kept g) (by have := v.O_len F; have := HF3.out; omega) _ _ _
                      rw [hR]
                      have HR0 : Hid (v.R = 0) := hR
                      clear hR
                      go_upto_region 12 with (go_at_call 13; refine (num5_any _ _).mono ?_; rintro r wn ⟨rfl, hwn⟩; rw [hwn]; clear hwn wn)
                      go_cut [109] (fun c wx => c = .bool false ∧ w3.grownBy wx none)
                      case first =>
                        obtain ⟨a0, a1, a2, a3, a4, az⟩ := rowIs_five RA3.out
                        obtain ⟨b0, b1', b2, b3, b4, bz⟩ := rowIs_five RB.out
                        clear az bz
                        go_wp2_with fail
                        refine (HBg.out _ (World.grownBy.refl _ _)).mono ?_
                        rintro r w4 ⟨rfl, g4⟩
                        have A4 := rowIs_five (rowIs_grown RA3.out g4)
                        have B4 := rowIs_five (rowIs_grown RB.out g4)
                        have p8 := (AR.out.kept g4).p8
                        rw [HFv.out] at p8
                        clear a0 a1 a2 a3 a4 b0 b1' b2 b3 b4
                        obtain ⟨a0, a1, a2, a3, a4, az⟩ := A4
                        obtain ⟨b0, b1', b2, b3, b4, bz⟩ := B4
                        clear az bz
                        have hCF : decide ((F : Int) < (v.C F : Int)) = false := decide_eq_false (by have := v.C_le F; omega)
                        have hCF1 : ((F : Int) < (v.C F : Int)) = False := by have := v.C_le F; simp; omega
                        have hCF2 : (F < v.C F) = False := by have := v.C_le F; simp; omega
                        have hCF3 : decide (F < v.C F) = false := decide_eq_false (by have := v.C_le F; omega)
                        have HG4 : Hid (w3.grownBy w4 none) := g4
                        clear g4
                        by_cases hE : v.E F = 3
                        · have hE1 : (v.E F == 3) = true := by simpa using hE
                          have hE2 : (v.E F != 3) = false := by simpa using hE
                          have hCC : ((v.C F : Int) != (F : Int)) = false := by have := v.C_full F HM.out hE; simp; omega
                          have hCC2 : v.C F = F := v.C_full F HM.out hE
                          clear hE
                          go_wp2_with fail
                          go_meet
                          exact ⟨rfl, HG4.out⟩
                        · have hE1 : (v.E F == 3) = false := by simpa using hE
                          have hE2 : (v.E F != 3) = true := by simpa using hE
                          have HE3 : Hid (¬ v.E F = 3) := hE
                          clear hE
                          go_wp2_with fail
                          refine (HEq.out HE3.out _ HG4.out).mono ?_
                          rintro r w5 ⟨rfl, g5⟩
                          go_wp2_with fail
                          go_meet
                          exact ⟨rfl, grown_trans HG4.out g5⟩
                      case rest =>
                        obtain ⟨rfl, g4⟩ := hcut
                        obtain ⟨w4, hwc⟩ : ∃ x, x = wc := ⟨_, rfl⟩
                        rw [← hwc] at g4 ⊢
                        clear hwc
                        have RA4 : Hid (w4.rowIs NA 35 5 (row5 (.slice aA (v.O F).length cA) (.slice none 0 0) (.int .i64 (v.E F)) (.int .i64 (v.Z F)) (.int .i64 (v.C F)))) := rowIs_grown RA3.out g4
                        have RWA4 : Hid (RwIn .u64 w4 aA (v.O F).length cA (fun i => (v.O F).getD i 0)) := RWA3.out.kept g4
                        have AR4 : Hid (AskR w4 b1 v) := AR.out.kept g4
                        have HIN4 : Hid (v.In w4) := HIN1.out.kept g4
                        have G4 : Hid (w.grownBy w4 none) := grown_trans G1.out g4
                        clear RA3 RWA3 RB RWB AR HIN1 G1 HBg HEq g4
                        have AR := AR4
                        have HIN1 := HIN4
                        have G1 := G4
                        clear AR4 HIN4 G4
                        obtain ⟨CF, hC⟩ : ∃ CF, CF = v.C F := ⟨_, rfl⟩
                        have HCF : Hid (CF = v.C F) := hC
                        clear hC
                        have hF20' : (CF : Int) ≤ 1048576 := by have := v.C_le F; have := HCF.out; have := HF3.out; omega
                        clear hF20
                        have hF20 := hF20'
                        clear hF20'
                        go_wp2_with fail
                        go_cut [9, 10] (fun p e wx => ∃ N ao cp, p = .pointer (some ⟨N, 0, none⟩) ∧ e = .int .i64 v.R ∧ wx.rowIs N 35 5 (row5 (.slice ao (v.O CF).length cp) (.slice none 0 0) (.int .i64 (v.E CF)) (.int .i64 (v.Z CF)) (.int .i64 (v.C CF))) ∧ RwIn .u64 wx ao (v.O CF).length cp (fun i => (v.O CF).getD i 0) ∧ w4.grownBy wx none)
                        case first =>
                          refine region_late 15 13 _ _ _ (fun i => psiK v b1 ⟨NA, 4, none⟩ (CF : Int) CF w4.heap.size (k7 i)) (by kernel_rfl) (by kernel_rfl) rfl rfl rfl (by kernel_rfl) (by kernel_rfl) (fun i x w0 w1 hi h g => psiK_stable h g) ?_ ?_ ?_
                          · simp only [List.take_succ_cons, List.take_zero]
                            refine ⟨?_, ?_, ?_, ?_, ?_, ?_, ?_, ?_, ?_, ?_, ?_, ?_, ?_, ?_, ?_, trivial⟩
                            · intro V W0 A g hV hs h0
                              have e04 := h0 4 (.pointer (some ⟨b1, 0, none⟩)) (by kernel_rfl) rfl
                              clear hV hs h0
                              refine outO_val (v := .pointer (some ⟨b1, 0, none⟩)) (w' := W0) ?_ (World.grownBy.refl _ _) rfl
                              simp [go_sem, e04]
                            · intro V W0 A g hV hs h0
                              have hA := AR.out.kept (grown_trans (grown_drew (World.grownBy.refl _ none)) g)
                              have hIn := HIN1.out.kept (grown_trans (grown_drew (World.grownBy.refl _ none)) g)
                              have h0' : V 0 = _ := hV 0 (by kernel_rfl)
                              have e0 := hs 111 0 (by kernel_rfl) (by kernel_rfl)
                              clear hV hs h0
                              refine outO_val (v := .agg #[.int .i64 v.I.t, .slice v.I.ca v.I.cn v.I.cc, .slice v.I.da v.I.dn v.I.dc, .int .i64 v.I.en, .slice v.I.fa v.I.fn v.I.fc]) (w' := W0) ?_ (World.grownBy.refl _ _) rfl
                              simp [go_sem, e0, h0', hA.p0, hA.p1, hA.p2, hA.p3, hA.p4]
                            · intro V W0 A g hV hs h0
                              have hA := AR.out.kept (grown_trans (grown_drew (World.grownBy.refl _ none)) g)
                              have hIn := HIN1.out.kept (grown_trans (grown_drew (World.grownBy.refl _ none)) g)
                              have h1 : V 1 = _ := hV 1 (by kernel_rfl)
                              have e1 := hs 112 1 (by kernel_rfl) (by kernel_rfl)
                              clear hV hs h0
                              refine outO_call (f := 23) ?_ (call_img hIn HL.out)
                              simp [go_sem, e1, h1]
                            · intro V W0 A g hV hs h0
                              have e04 := h0 4 (.pointer (some ⟨b1, 0, none⟩)) (by kernel_rfl) rfl
                              clear hV hs h0
                              refine outO_val (v := .pointer (some ⟨b1, 5, none⟩)) (w' := W0) ?_ (World.grownBy.refl _ _) rfl
                              simp [go_sem, e04]
                            · intro V W0 A g hV hs h0
                              have hA := AR.out.kept (grown_trans (grown_drew (World.grownBy.refl _ none)) g)
                              have hIn := HIN1.out.kept (grown_trans (grown_drew (World.grownBy.refl _ none)) g)
                              have h3 : V 3 = _ := hV 3 (by kernel_rfl)
                              have e3 := hs 114 3 (by kernel_rfl) (by kernel_rfl)
                              clear hV hs h0
                              refine outO_val (v := .int .i64 v.S) (w' := W0) ?_ (World.grownBy.refl _ _) rfl
                              simp [go_sem, e3, h3, hA.p5]
                            · intro V W0 A g hV hs h0
                              have e04 := h0 4 (.pointer (some ⟨b1, 0, none⟩)) (by kernel_rfl) rfl
                              clear hV hs h0
                              refine outO_val (v := .pointer (some ⟨b1, 6, none⟩)) (w' := W0) ?_ (World.grownBy.refl _ _) rfl
                              simp [go_sem, e04]
                            · intro V W0 A g hV hs h0
                              have hA := AR.out.kept (grown_trans (grown_drew (World.grownBy.refl _ none)) g)
                              have hIn := HIN1.out.kept (grown_trans (grown_drew (World.grownBy.refl _ none)) g)
                              have h5 : V 5 = _ := hV 5 (by kernel_rfl)
                              have e5 := hs 116 5 (by kernel_rfl) (by kernel_rfl)
                              clear hV hs h0
                              refine outO_val (v := .slice v.aa v.an v.ac) (w' := W0) ?_ (World.grownBy.refl _ _) rfl
                              simp [go_sem, e5, h5, hA.p6]
                            · intro V W0 A g hV hs h0
                              have hA := AR.out.kept (grown_trans (grown_drew (World.grownBy.refl _ none)) g)
                              have hIn := HIN1.out.kept (grown_trans (grown_drew (World.grownBy.refl _ none)) g)
                              have h6 : V 6 = _ := hV 6 (by kernel_rfl)
                              have e6 := hs 117 6 (by kernel_rfl) (by kernel_rfl)
                              clear hV hs h0
                              refine outO_call (f := 28) ?_ (call_words hIn HL.out)
                              simp [go_sem, e6, h6]
                            · intro V W0 A g hV hs h0
                              have e05 := h0 5 (.pointer (some ⟨NA, 0, none⟩)) (by kernel_rfl) rfl
                              clear hV hs h0
                              refine outO_val (v := .pointer (some ⟨NA, 4, none⟩)) (w' := W0) ?_ (World.grownBy.refl _ _) rfl
                              simp [go_sem, e05]
                            · intro V W0 A g hV hs h0
                              have hA := AR.out.kept (grown_trans (grown_drew (World.grownBy.refl _ none)) g)
                              have hIn := HIN1.out.kept (grown_trans (grown_drew (World.grownBy.refl _ none)) g)
                              have h8 : V 8 = _ := hV 8 (by kernel_rfl)
                              have e8 := hs 119 8 (by kernel_rfl) (by kernel_rfl)
                              have q9 := (rowIs_five (rowIs_grown RA4.out (grown_trans (grown_drew (World.grownBy.refl _ none)) g))).2.2.2.2.1
                              rw [← HCF.out] at q9
                              clear hV hs h0
                              refine outO_val (v := .int .i64 (CF : Int)) (w' := W0) ?_ (World.grownBy.refl _ _) rfl
                              simp [go_sem, e8, h8, q9]
                            · intro V W0 A g hV hs h0
                              have hA := AR.out.kept (grown_trans (grown_drew (World.grownBy.refl _ none)) g)
                              have hIn := HIN1.out.kept (grown_trans (grown_drew (World.grownBy.refl _ none)) g)
                              obtain ⟨ca, cc, da, dc, fa, fc, h2, i2⟩ := hV 2 (by kernel_rfl)
                              have h4 : V 4 = _ := hV 4 (by kernel_rfl)
                              obtain ⟨ao, cap, h7, i7⟩ := hV 7 (by kernel_rfl)
                              have h9 : V 9 = _ := hV 9 (by kernel_rfl)
                              have e2 := hs 113 2 (by kernel_rfl) (by kernel_rfl)
                              have e4 := hs 115 4 (by kernel_rfl) (by kernel_rfl)
                              have e7 := hs 118 7 (by kernel_rfl) (by kernel_rfl)
                              have e9 := hs 120 9 (by kernel_rfl) (by kernel_rfl)
                              clear hV hs h0
                              refine outO_call (f := 8) ?_ (call_run hIn hF20 i2 i7)
                              simp [go_sem, e2, e4, e7, e9, h2, h4, h7, h9]
                            · intro V W0 A g hV hs h0
                              obtain ⟨ao, cp, h10, i10⟩ := hV 10 (by kernel_rfl)
                              have e10 := hs 121 10 (by kernel_rfl) (by kernel_rfl)
                              clear hV hs h0
                              exact outO_val (v := V 10) (w' := W0) (by simp [go_sem, e10]) (World.grownBy.refl _ _) ⟨ao, cp, h10, i10⟩
                            · intro V W0 A g hV hs h0
                              obtain ⟨ao, cp, h11, i11⟩ := hV 11 (by kernel_rfl)
                              have e11 := hs 110 11 (by kernel_rfl) (by kernel_rfl)
                              clear hV hs h0
                              refine outO_val (v := .agg #[.slice ao (v.O CF).length cp, .slice none 0 0, .int .i64 (v.E CF), .int .i64 (v.Z CF), .int .i64 (v.C CF)]) (w' := W0) ?_ (World.grownBy.refl _ _) ⟨ao, cp, rfl, i11⟩
                              simp [go_sem, e11, h11]
                            · intro V W0 A g hV hs h0
                              obtain ⟨ao, cp, h11, i11⟩ := hV 11 (by kernel_rfl)
                              have e11 := hs 110 11 (by kernel_rfl) (by kernel_rfl)
                              clear hV hs h0
                              refine outO_val (v := .int .i64 v.R) (w' := W0) ?_ (World.grownBy.refl _ _) rfl
                              simp [go_sem, e11, h11]
                            · intro V W0 A g hV hs h0
                              clear hV hs h0
                              refine outO_val (v := .pointer (some ⟨W0.heap.size, 0, none⟩)) (w' := W0.alloc (Obj.cells #[.slice none 0 0, .slice none 0 0, .int .i64 0, .int .i64 0, .int .i64 0] 35)) ?_ (World.grownBy_alloc _ _ _) ⟨W0.heap.size, rfl, row5_new _ _ _ _ _ _ _, by have := g.size; exact this⟩
                              simp [go_sem]
                          · intro V W0 g hV
                            have h0 : V 0 = _ := hV 0 (by decide)
                            have h1 : V 1 = _ := hV 1 (by decide)
                            have h3 : V 3 = _ := hV 3 (by decide)
                            have h4 : V 4 = _ := hV 4 (by decide)
                            have h5 : V 5 = _ := hV 5 (by decide)
                            have h6 : V 6 = _ := hV 6 (by decide)
                            have h8 : V 8 = _ := hV 8 (by decide)
                            have h9 : V 9 = _ := hV 9 (by decide)
                            obtain ⟨ca, cc, da, dc, fa, fc, h2, _⟩ := hV 2 (by decide)
                            obtain ⟨ao7, cap7, h7, _⟩ := hV 7 (by decide)
                            obtain ⟨ao10, cp10, h10, _⟩ := hV 10 (by decide)
                            obtain ⟨ao11, cp11, h11, _⟩ := hV 11 (by decide)
                            obtain ⟨ao, cp, h12, hrw⟩ := hV 12 (by decide)
                            have h13 : V 13 = _ := hV 13 (by decide)
                            obtain ⟨N, h14, hrow, hN⟩ := hV 14 (by decide)
                            have HG2 : Hid (w.grownBy W0 none) := grown_trans G1.out (grown_trans (grown_drew (World.grownBy.refl _ none)) g)
                            have HR2 : Hid (W0.rowIs N 35 5 (row5 (.slice none 0 0) (.slice none 0 0) (.int .i64 0) (.int .i64 0) (.int .i64 0))) := hrow
                            have HRW : Hid (RwIn .u64 W0 ao (v.O CF).length cp (fun i => (v.O CF).getD i 0)) := hrw
                            obtain ⟨z0, z1, z2, z3, z4, zz⟩ := rowIs_five hrow
                            simp [frV, dstOf, Act.put, h0, h1, h2, h3, h4, h5, h6, h7, h8, h9, h10, h11, h12, h13, h14]
                            clear h0 h1 h2 h3 h4 h5 h6 h7 h8 h9 h10 h11 h12 h13 h14 hV hrow hrw
                            obtain ⟨L, hL⟩ : ∃ L, L = (v.O CF).length := ⟨_, rfl⟩
                            rw [← hL] at HRW ⊢
                            have HLn : Hid (L = (v.O CF).length) := hL
                            clear hL
                            go_wp2_with fail
                            go_meet
                            rw [← HLn.out]
                            exact ⟨N, ao, cp, rfl, rfl, res_put (w0 := w4) (grown_trans (grown_drew (World.grownBy.refl _ none)) g) hN HR2.out HRW.out⟩
                          · intro V W0 g hV hold
                            have h0 : V 0 = _ := hV 0 (by decide) (by decide)
                            have h1 : V 1 = _ := hV 1 (by decide) (by decide)
                            have h3 : V 3 = _ := hV 3 (by decide) (by decide)
                            have h4 : V 4 = _ := hV 4 (by decide) (by decide)
                            have h5 : V 5 = _ := hV 5 (by decide) (by decide)
                            have h6 : V 6 = _ := hV 6 (by decide) (by decide)
                            have h8 : V 8 = _ := hV 8 (by decide) (by decide)
                            have h9 : V 9 = _ := hV 9 (by decide) (by decide)
                            obtain ⟨ca, cc, da, dc, fa, fc, h2, _⟩ := hV 2 (by decide) (by decide)
                            obtain ⟨ao7, cap7, h7, _⟩ := hV 7 (by decide) (by decide)
                            obtain ⟨ao10, cp10, h10, _⟩ := hV 10 (by decide) (by decide)
                            obtain ⟨ao11, cp11, h11, _⟩ := hV 11 (by decide) (by decide)
                            obtain ⟨ao, cp, h12, hrw⟩ := hV 12 (by decide) (by decide)
                            obtain ⟨y, h13⟩ : ∃ y, V 13 = y := ⟨_, rfl⟩
                            obtain ⟨N, h14, hrow, hN⟩ := hV 14 (by decide) (by decide)
                            have HG2 : Hid (w.grownBy W0 none) := grown_trans G1.out (grown_trans (grown_drew (World.grownBy.refl _ none)) g)
                            have HR2 : Hid (W0.rowIs N 35 5 (row5 (.slice none 0 0) (.slice none 0 0) (.int .i64 0) (.int .i64 0) (.int .i64 0))) := hrow
                            have HRW : Hid (RwIn .u64 W0 ao (v.O CF).length cp (fun i => (v.O CF).getD i 0)) := hrw
                            obtain ⟨z0, z1, z2, z3, z4, zz⟩ := rowIs_five hrow
                            simp [frV, dstOf, Act.put, h0, h1, h2, h3, h4, h5, h6, h7, h8, h9, h10, h11, h12, h13, h14]
                            clear h0 h1 h2 h3 h4 h5 h6 h7 h8 h9 h10 h11 h12 h13 h14 hV hrow hrw hold
                            obtain ⟨L, hL⟩ : ∃ L, L = (v.O CF).length := ⟨_, rfl⟩
                            rw [← hL] at HRW ⊢
                            have HLn : Hid (L = (v.O CF).length) := hL
                            clear hL
                            go_wp2_with fail
                            go_meet
                            rw [← HLn.out]
                            exact ⟨N, ao, cp, rfl, rfl, res_put (w0 := w4) (grown_trans (grown_drew (World.grownBy.refl _ none)) g) hN HR2.out HRW.out⟩
                        case rest =>
                          obtain ⟨NC, aC, cC, rfl, rfl, hrowC, hrww6, g2⟩ := hcut
                          obtain ⟨w6, hwc⟩ : ∃ x, x = wc := ⟨_, rfl⟩
                          rw [← hwc] at hrowC hrww6 g2 ⊢
                          clear hwc
                          have AR2 : Hid (AskR w6 b1 v) := AR.out.kept g2
                          have HIN2 : Hid (v.In w6) := HIN1.out.kept g2
                          have G2 : Hid (w.grownBy w6 none) := grown_trans G1.out g2
                          clear AR HIN1 G1
                          have AR := AR2
                          have HIN1 := HIN2
                          have G1 := G2
                          clear AR2 HIN2 G2
                          have HEc : Hid (∀ W, w6.grownBy W none → Calls Tryz.prog 14 #[.agg #[.slice aA (v.O F).length cA, .slice none 0 0, .int .i64 (v.E F), .int .i64 (v.Z F), .int .i64 (v.C F)], .agg #[.slice aC (v.O CF).length cC, .slice none 0 0, .int .i64 (v.E CF), .int .i64 (v.Z CF), .int .i64 (v.C CF)]] W fun r w' => r = .returned (.bool true) ∧ W.grownBy w' none) := fun W g => by
                            have he := v.again F
                            rw [← HCF.out] at he
                            have r2 := hrww6
                            rw [he.1] at r2
                            rw [he.1, he.2.1, he.2.2.1, he.2.2.2, HCF.out]
                            exact eqRun_true ((RWA4.out.kept g2).kept g) (r2.kept g) (by have := v.O_len F; have := HF3.out; omega) _ _ _
                          obtain ⟨a0, a1, a2, a3, a4, az⟩ := rowIs_five (rowIs_grown RA4.out g2)
                          obtain ⟨d0, d1, d2, d3, d4, dz⟩ := rowIs_five hrowC
                          clear az dz hrowC hrww6 g2
                          rw [HR0.out]
                          go_wp2_with (first | (go_at_call 13; refine (num5_any _ _).mono ?_; rintro r wn ⟨rfl, hwn⟩; rw [hwn]; clear hwn wn) | (go_at_call 14; refine (HEc.out _ (World.grownBy.refl _ _)).mono ?_; rintro r w7 ⟨rfl, g7⟩))
                          go_roundw
                          case rel => exact ⟨k + 1, by go_num, by omega, by omega, (grown_trans G1.out g7)⟩
                          case measure => simp [intOf]; omega
          · go_wp2
            go_ret
            exact ⟨rfl, below_of (grown_trans HG.out (grown_trans (World.grownBy_alloc _ _ _) g1))⟩
        · have h6' : decide ((k : Int) < 6) = false := decide_eq_false (by omega)
          go_wp2_with (go_at_call 17; refine (HW.out _).mono ?_; rintro r w1 ⟨rfl, g1⟩)
          go_ret
          exact ⟨rfl, below_of (grown_trans HG.out g1)⟩
      · have hkl' : decide ((k : Int) < len) = false := decide_eq_false (by omega)
        go_wp2_with (go_at_call 17; refine (HW.out _).mono ?_; rintro r w1 ⟨rfl, g1⟩)
        go_ret
        exact ⟨rfl, below_of (grown_trans HG.out g1)⟩
end Go.Proofs.YtdklaeppcjopoaaGreat
