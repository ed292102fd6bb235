/- RawEncodes: the walk. -/
import Derived.Test.YtljdjkiejppenaaG12
import Derived.Test.YtljdjkiejppenaaRuGd
import Derived.BigGuardPart
namespace Go.Proofs.Ytljdjkiejppenaa
open Go.RowKit
set_option linter.unusedVariables false

/-- bytes of one's own, whosever -/
def ownV (l : List Int) : Value → World → Prop := fun v W => ∃ b, OwnL W b v l
theorem stab_own (l : List Int) : StabV (ownV l) := fun _ _ _ ⟨b, h⟩ g => ⟨b, h.kept g (Classical.em _)⟩
set_option maxRecDepth 100000 in
set_option maxHeartbeats 16000000 in
theorem rawEncodes_walk (a0 : Option Addr) (cap : Nat) (l : List Pg.Pr) (w : World) (h : RowL 2 48 (· < w.heap.size) (PrAt (· < w.heap.size) w) a0 cap l) :
    Calls Try.prog 3 #[.slice a0 l.length cap] w fun e w' => e = .returned (.bool true) ∧ w.grownBy w' none := by
  have hle := h.le
  have hmx := h.max
  unfold maxLen at hmx
  have HL : Hid (RowL 2 48 (· < w.heap.size) (PrAt (· < w.heap.size) w) a0 cap l) := h
  clear h
  go_enter Try.func3, Try.ntmps3
  go_wp2_with fail
  go_loopw [3] (fun ix wr => ∃ k : Nat, ix = .int .i64 k ∧ k ≤ l.length ∧ k ≤ 12 ∧ w.grownBy wr none) (fun ix _ => l.length - (intOf ix).toNat)
  case atStart => exact ⟨0, rfl, Nat.zero_le _, by omega, World.grownBy.refl _ _⟩
  case round =>
    obtain ⟨k, rfl, hk, hk12, hg⟩ := hrel
    have HG : Hid (w.grownBy wr none) := hg
    by_cases hgo : k < l.length ∧ k < 12
    case neg =>
      have HW := wakes8 wr
      clear hg
      have hcond : ((decide ((k : Int) < l.length)) = false) ∨ (decide ((k : Int) < l.length) = true ∧ decide ((k : Int) < 12) = false) := by
        by_cases hkn : k < l.length
        · exact .inr ⟨decide_eq_true (by omega), decide_eq_false (by omega)⟩
        · exact .inl (decide_eq_false (by omega))
      rcases hcond with d2 | ⟨d2, d3⟩
      · have d4 : ¬ ((k : Int) < l.length) := by simpa using d2
        clear hgo
        go_wp2_with (go_at_call 15; refine HW.mono ?_; rintro e w4 ⟨rfl, hg4⟩; have G4 : Hid (wr.grownBy w4 none) := hg4; clear hg4)
        go_ret
        exact ⟨rfl, grown_trans HG.out G4.out⟩
      · have d4 : (k : Int) < l.length := by simpa using d2
        have d5 : ¬ ((k : Int) < 12) := by simpa using d3
        clear hgo
        go_wp2_with (go_at_call 15; refine HW.mono ?_; rintro e w4 ⟨rfl, hg4⟩; have G4 : Hid (wr.grownBy w4 none) := hg4; clear hg4)
        go_ret
        exact ⟨rfl, grown_trans HG.out G4.out⟩
    obtain ⟨hkn, hk12'⟩ := hgo
    have hkn' : (k : Int) < l.length := by omega
    have hk13 : (k : Int) < 12 := by omega
    obtain ⟨b, o, rfl, hb, hx⟩ := HL.out.at hkn
    obtain ⟨a1, a2, k1, k2, c0', c1', hp⟩ := hx
    have HC0 : Hid (∀ W, wr.grownBy W none → W.cell? ⟨b, o + k * 2, none⟩ = some (.slice a1 l[k].types.length k1) ∧ W.cell? ⟨b, o + k * 2 + 1, none⟩ = some (.slice a2 l[k].funcs.length k2) ∧ PrC (· < w.heap.size) W l[k] a1 a2 k1 k2) := fun W g => ⟨(grown_trans HG.out g).cell c0' (by simp), (grown_trans HG.out g).cell c1' (by simp), TpL.grow hp.t (grown_trans HG.out g), FnL.grow hp.f (grown_trans HG.out g)⟩
    clear c0' c1' hp
    generalize l[k] = p at *
    obtain ⟨c0, c1, hp⟩ := HC0.out wr (World.grownBy.refl _ _)
    have HW : Hid (Calls Try.prog 6 #[.agg #[.slice a1 p.types.length k1, .slice a2 p.funcs.length k2], .int .i64 4000] wr fun e w' => ∃ r, e = .returned (.int .i64 r) ∧ (r ≤ 4000 → r = p.w) ∧ wr.grownBy w' none) := weight_any (by decide) hp
    clear hp hg
    go_wp2_with (go_at_call 6; refine HW.out.mono ?_; rintro e w1 ⟨r, rfl, hr, hg1⟩; have G1 : Hid (wr.grownBy w1 none) := hg1; have R1 : Hid (r ≤ 4000 → r = p.w) := hr; obtain ⟨m0, m1, _⟩ := HC0.out w1 hg1; clear hg1 hr HW)
    · go_ret
      exact ⟨rfl, grown_trans HG.out G1.out⟩
    have hr4 : r ≤ 4000 := by assumption
    have hpw : p.w ≤ 60000 := by have := R1.out hr4; omega
    obtain ⟨m0, m1, hp1⟩ := HC0.out w1 G1.out
    obtain ⟨b1, b2, b3, b4, b5⟩ := pr_rm hp1 hpw
    have HCP : Hid (Calls Try.prog 7 #[.agg #[.slice a1 p.types.length k1, .slice a2 p.funcs.length k2]] w1 fun e w' => ∃ a1' k1' a2' k2', e = .returned (.agg #[.slice a1' p.types.length k1', .slice a2' p.funcs.length k2']) ∧ (TpL (Fresh w1 w') w' a1' k1' p.types ∧ FnL (Fresh w1 w') w' a2' k2' p.funcs) ∧ w1.grownBy w' none) := copyProgram_any (fun q hq => Nat.lt_of_lt_of_le hq (Nat.le_trans HG.out.size G1.out.size)) hp1.t hp1.f
    have B1 : Hid (Rm ⟨false, 0, 0, 0⟩ [] p.dl) := b1
    have B2 : Hid (p.dl.nd ≤ 100000000) := b2
    have B3 : Hid (p.dl.en.length ≤ 1000000000) := b3
    have B5 : Hid (p.dl.may = p.may) := b5
    have hsz : w.heap.size ≤ w1.heap.size := Nat.le_trans HG.out.size G1.out.size
    clear hp1 b1 b2 b3 b5 hpw
    by_cases he : p.err = 0
    · have HE : Hid (p.err = 0) := he
      have HR : Hid (p.rerr = 0) := by show _ = _; rw [← b4]; exact he
      clear he b4
      go_wp2_with (first
        | (go_at_call 7; refine HCP.out.mono ?_; rintro e w2 ⟨a1', k1', a2', k2', rfl, ⟨hT, hF⟩, hg2⟩; have G2 : Hid (w1.grownBy w2 none) := hg2; have HT : Hid (∀ W, w2.grownBy W none → TpL (fun q => q < w2.heap.size) W a1' k1' p.types ∧ FnL (fun q => q < w2.heap.size) W a2' k2' p.funcs) := (fun W g => ⟨TpL.ch hT (l := []) (Ch.of g) (by simp) (fun _ h => h.2), FnL.ch hF (l := []) (Ch.of g) (by simp) (fun _ h => h.2)⟩); have HEn : Hid (Calls Try.prog 8 #[.agg #[.slice a1' p.types.length k1', .slice a2' p.funcs.length k2']] (w2.alloc (.cells #[.slice a1' p.types.length k1', .slice a2' p.funcs.length k2'] 27)) fun e w' => ∃ v, e = .returned (.tuple #[v, .int .i64 0]) ∧ OwnL w' (w2.heap.size + 1) v p.dl.en ∧ (w2.alloc (.cells #[.slice a1' p.types.length k1', .slice a2' p.funcs.length k2'] 27)).grownBy w' none) := (by have := encode_ok (w := w2.alloc (.cells #[.slice a1' p.types.length k1', .slice a2' p.funcs.length k2'] 27)) (p := p) (a1 := a1') (a2 := a2') (k1 := k1') (k2 := k2') ⟨(TpL.grow (TpL.ch hT (l := []) (Ch.refl _ _) (by simp) (fun q h => by simp; omega)) (World.grownBy_alloc _ _ _)), (FnL.grow (FnL.ch hF (l := []) (Ch.refl _ _) (by simp) (fun q h => by simp; omega)) (World.grownBy_alloc _ _ _))⟩ B1.out HE.out; rw [show (w2.alloc (.cells #[.slice a1' p.types.length k1', .slice a2' p.funcs.length k2'] 27)).heap.size = w2.heap.size + 1 from by simp] at this; exact this); clear hT hF hg2 HCP)
        | (go_at_call 8; refine HEn.out.mono ?_; rintro e w3 ⟨v, rfl, ho3, hg3⟩; obtain ⟨ao, cp, rfl, _⟩ := ho3.toB.shape; have O3 : Hid (OwnL w3 (w2.heap.size + 1) (.slice ao p.dl.en.length cp) p.dl.en) := ho3; have P3 : Hid (w3.heap[w2.heap.size]? = some (.cells #[.slice a1' p.types.length k1', .slice a2' p.funcs.length k2'] 27)) := ((hg3.block _ (by simp) (by simp)).trans (heap_alloc_new w2 _)); have G3 : Hid (w2.grownBy w3 none) := grown_trans (World.grownBy_alloc _ _ _) hg3; obtain ⟨n0, n1, hp3⟩ := HC0.out w3 (grown_trans G1.out (grown_trans G2.out G3.out)); have HRe : Hid (Calls Try.prog 9 #[.agg #[.slice a1 p.types.length k1, .slice a2 p.funcs.length k2]] w3 fun e w' => e = .returned (.int .i64 p.rerr) ∧ w3.grownBy w' none) := rencode8 hp3 B2.out; rw [HR.out] at HRe; clear ho3 hg3 hp3 HEn)
        | (go_at_call 9; refine HRe.out.mono ?_; rintro e w4 ⟨rfl, hg4⟩; have G4 : Hid (w3.grownBy w4 none) := hg4; clear hg4 HRe))
      have G14 : w1.grownBy w4 none := grown_trans G2.out (grown_trans G3.out G4.out)
      have HCW : Hid (∀ W, w4.grownBy W none → W.cell? ⟨b, o + k * 2, none⟩ = some (.slice a1 p.types.length k1) ∧ W.cell? ⟨b, o + k * 2 + 1, none⟩ = some (.slice a2 p.funcs.length k2) ∧ W.cell? ⟨w2.heap.size, 0, none⟩ = some (.slice a1' p.types.length k1') ∧ W.cell? ⟨w2.heap.size, 1, none⟩ = some (.slice a2' p.funcs.length k2')) := fun W g => by
        obtain ⟨z0, z1, _⟩ := HC0.out W (grown_trans G1.out (grown_trans G14 g))
        have gg := grown_trans G4.out g
        exact ⟨z0, z1, gg.cell (rcell P3.out 0) (by simp), gg.cell (rcell P3.out 1) (by simp)⟩
      have HBy : Hid (∀ W, w4.grownBy W none → Calls Try.prog 12 #[.agg #[.slice a1 p.types.length k1, .slice a2 p.funcs.length k2]] W fun e w' => ∃ v, e = .returned v ∧ OwnL w' W.heap.size v p.dl.en ∧ W.grownBy w' none) := fun W g => by
        obtain ⟨_, _, hp⟩ := HC0.out W (grown_trans G1.out (grown_trans G14 g))
        have hs : w.heap.size ≤ W.heap.size := Nat.le_trans hsz (grown_trans G14 g).size
        refine bytes8 ⟨TpL.ch hp.t (l := []) (Ch.refl _ _) (by simp) (fun q h => Nat.lt_of_lt_of_le h hs), FnL.ch hp.f (l := []) (Ch.refl _ _) (by simp) (fun q h => Nat.lt_of_lt_of_le h hs)⟩ ?_ B3.out
        have := HR.out
        unfold Pg.Pr.rerr at this
        rw [B5.out]
        cases hm : p.may
        · rw [hm] at this; cases this
        · rfl
      have HEP : Hid (∀ W, w4.grownBy W none → Calls Try.prog 13 #[.agg #[.slice a1' p.types.length k1', .slice a2' p.funcs.length k2'], .agg #[.slice a1 p.types.length k1, .slice a2 p.funcs.length k2]] W fun e w' => e = .returned (.bool true) ∧ W.grownBy w' none) := fun W g => by
        obtain ⟨_, _, hp⟩ := HC0.out W (grown_trans G1.out (grown_trans G14 g))
        obtain ⟨t1, t2⟩ := HT.out W (grown_trans G3.out (grown_trans G4.out g))
        exact eqProgram_true t1 hp.t t2 hp.f
      have HEB : Hid (∀ W v', w4.grownBy W none → (∃ b', OwnL W b' v' p.dl.en) → Calls Try.prog 11 #[.slice ao p.dl.en.length cp, v'] W fun e w' => e = .returned (.bool true) ∧ W.grownBy w' none) := fun W v' g ⟨b', h'⟩ => eqL (O3.out.kept (grown_trans G4.out g) (Classical.em _)) h' B3.out
      have HSp : Hid (∀ W, w4.grownBy W none → Calls Try.prog 14 #[.slice ao p.dl.en.length cp] W fun e w' => e = .returned (.tuple #[]) ∧ w.grownBy w' none) := fun W g => by
        have ho := O3.out.kept (grown_trans G4.out g) (Classical.em _)
        have gw : w.grownBy W none := grown_trans HG.out (grown_trans G1.out (grown_trans G14 g))
        have gs : w2.heap.size + 1 ≤ W.heap.size := Nat.le_trans (by have := (Array.getElem?_eq_some_iff.1 P3.out).1; omega) (grown_trans G4.out g).size
        refine (spoilB (w2.heap.size + 1) p.dl.en.length _ _ W (by have := B3.out; omega) gs ho.toB).mono fun e w' ⟨he, hg⟩ => ⟨he, ?_⟩
        have hb := ho.toB.lt
        have g12 : w.heap.size ≤ w2.heap.size := Nat.le_trans hsz G2.out.size
        exact ⟨hg.os.trans gw.os, hg.tape.trans gw.tape, hg.output.trans gw.output, Nat.le_trans gw.size hg.size, fun q hq _ => (hg.block q (Nat.lt_of_lt_of_le hq gw.size) (fun e => by have := (hb q e.symm).1; omega)).trans (gw.block q hq (by simp))⟩
      clear m0 m1 n0 n1 c0 c1
      refine region_gd (fun w w' => w.grownBy w' none) (fun h1 h2 => grown_trans h1 h2) (fun w => World.grownBy.refl _ _) 35 (psiL [eqV (.int .i64 0), eqV (.int .i64 0), eqV (.int .i64 0), eqV (.bool false), eqV (.bool false), eqV (.int .i64 0), eqV (.bool false), eqV (.bool false), eqV (undef), eqV (undef), eqV (undef), eqV (.bool false), eqV (.bool false), eqV (.bool false), eqV (.int .i64 0), eqV (.bool true), eqV (.bool true), eqV (.slice ao p.dl.en.length cp), eqV (.slice (some ⟨b, o, none⟩) l.length cap), eqV (.int .i64 (k : Int)), eqV (.pointer (some ⟨b, o + k * 2, none⟩)), eqV (.agg #[.slice a1 p.types.length k1, .slice a2 p.funcs.length k2]), ownV p.dl.en, eqV (.bool true), eqV (.bool false), eqV (.bool false), eqV (.bool false), eqV (.bool false), eqV (.agg #[.slice a1' p.types.length k1', .slice a2' p.funcs.length k2']), eqV (.slice (some ⟨b, o, none⟩) l.length cap), eqV (.int .i64 (k : Int)), eqV (.pointer (some ⟨b, o + k * 2, none⟩)), eqV (.agg #[.slice a1 p.types.length k1, .slice a2 p.funcs.length k2]), eqV (.bool true), eqV (.bool false)]) (by kernel_rfl) (by kernel_rfl) (by kernel_rfl) (by kernel_rfl) (psiL_hst (by repeat (first | exact stab_nil | refine stab_cons ?_ ?_ | exact stab_eq _ | exact stab_own _))) ?_ ?_
      · simp only [List.take_succ_cons, List.take_zero]
        refine ⟨?_, ?_, ?_, ?_, ?_, ?_, ?_, ?_, ?_, ?_, ?_, ?_, ?_, ?_, ?_, ?_, ?_, ?_, ?_, ?_, ?_, ?_, ?_, ?_, ?_, ?_, ?_, ?_, ?_, ?_, ?_, ?_, ?_, ?_, ?_, trivial⟩
        · intro VV W0 AA g hV hs hz
          refine outG_yes (by simp [wantedV]) ?_
          have e06 := hz 6 (.int .i64 0) (by kernel_rfl) rfl
          clear hV hs hz
          refine outR_val (by kernel_rfl) (v := .int .i64 0) (w' := W0) ?_ (World.grownBy.refl _ _) rfl
          simp [go_sem, e06]
        · intro VV W0 AA g hV hs hz
          refine outG_yes (by simp [wantedV]) ?_
          have gD : w4.grownBy W0 none := grown_trans (grown_drew (World.grownBy.refl _ none)) g
          have q0 : VV 0 = .int .i64 0 := hV 0 (by kernel_rfl)
          have e0 := hs 39 0 (by kernel_rfl) (by kernel_rfl)
          clear hV hs hz
          refine outR_call (by kernel_rfl) (f := 10) ?_ ((num8 _ _).mono fun e w2 ⟨he, hw⟩ => ⟨_, he, by rw [hw]; exact World.grownBy.refl _ _, rfl⟩)
          simp [go_sem, q0, e0]
        · intro VV W0 AA g hV hs hz
          refine outG_yes (by simp [wantedV]) ?_
          have e07 := hz 7 (.int .i64 0) (by kernel_rfl) rfl
          clear hV hs hz
          refine outR_val (by kernel_rfl) (v := .int .i64 0) (w' := W0) ?_ (World.grownBy.refl _ _) rfl
          simp [go_sem, e07]
        · intro VV W0 AA g hV hs hz
          refine outG_yes (by simp [wantedV]) ?_
          have q1 : VV 1 = .int .i64 0 := hV 1 (by kernel_rfl)
          have e1 := hs 40 1 (by kernel_rfl) (by kernel_rfl)
          have q2 : VV 2 = .int .i64 0 := hV 2 (by kernel_rfl)
          have e2 := hs 41 2 (by kernel_rfl) (by kernel_rfl)
          clear hV hs hz
          refine outR_val (by kernel_rfl) (v := .bool false) (w' := W0) ?_ (World.grownBy.refl _ _) rfl
          simp [go_sem, q1, e1, q2, e2]
        · intro VV W0 AA g hV hs hz
          refine outG_yes (by simp [wantedV]) ?_
          have q3 : VV 3 = .bool false := hV 3 (by kernel_rfl)
          have e3 := hs 42 3 (by kernel_rfl) (by kernel_rfl)
          clear hV hs hz
          refine outR_val (by kernel_rfl) (v := .bool false) (w' := W0) ?_ (World.grownBy.refl _ _) rfl
          simp [go_sem, q3, e3]
        · intro VV W0 AA g hV hs hz
          have qg : VV 4 = .bool false := hV 4 (by kernel_rfl)
          refine outG_yes (by simp [wantedV, boolOf, qg]) ?_
          have e07 := hz 7 (.int .i64 0) (by kernel_rfl) rfl
          clear hV hs hz qg
          refine outR_val (by kernel_rfl) (v := .int .i64 0) (w' := W0) ?_ (World.grownBy.refl _ _) rfl
          simp [go_sem, e07]
        · intro VV W0 AA g hV hs hz
          have qg : VV 4 = .bool false := hV 4 (by kernel_rfl)
          refine outG_yes (by simp [wantedV, boolOf, qg]) ?_
          have q5 : VV 5 = .int .i64 0 := hV 5 (by kernel_rfl)
          have e5 := hs 44 5 (by kernel_rfl) (by kernel_rfl)
          clear hV hs hz qg
          refine outR_val (by kernel_rfl) (v := .bool false) (w' := W0) ?_ (World.grownBy.refl _ _) rfl
          simp [go_sem, q5, e5]
        · intro VV W0 AA g hV hs hz
          have qg : VV 4 = .bool false := hV 4 (by kernel_rfl)
          refine outG_yes (by simp [wantedV, boolOf, qg]) ?_
          have q6 : VV 6 = .bool false := hV 6 (by kernel_rfl)
          have e6 := hs 45 6 (by kernel_rfl) (by kernel_rfl)
          clear hV hs hz qg
          refine outR_val (by kernel_rfl) (v := .bool false) (w' := W0) ?_ (World.grownBy.refl _ _) rfl
          simp [go_sem, q6, e6]
        · intro VV W0 AA g hV hs hz
          have qg : VV 7 = .bool false := hV 7 (by kernel_rfl)
          exact outG_no (by simp [wantedV, boolOf, qg]) rfl
        · intro VV W0 AA g hV hs hz
          have qg : VV 7 = .bool false := hV 7 (by kernel_rfl)
          exact outG_no (by simp [wantedV, boolOf, qg]) rfl
        · intro VV W0 AA g hV hs hz
          have qg : VV 7 = .bool false := hV 7 (by kernel_rfl)
          exact outG_no (by simp [wantedV, boolOf, qg]) rfl
        · intro VV W0 AA g hV hs hz
          have qg : VV 4 = .bool false := hV 4 (by kernel_rfl)
          refine outG_yes (by simp [wantedV, boolOf, qg]) ?_
          have q7 : VV 7 = .bool false := hV 7 (by kernel_rfl)
          have e7 := hs 46 7 (by kernel_rfl) (by kernel_rfl)
          have q10 : VV 10 = undef := hV 10 (by kernel_rfl)
          have e10 := hs 49 10 (by kernel_rfl) (by kernel_rfl)
          clear hV hs hz qg
          refine outR_val (by kernel_rfl) (v := .bool false) (w' := W0) ?_ (World.grownBy.refl _ _) rfl
          simp [go_sem, q7, e7, q10, e10]
        · intro VV W0 AA g hV hs hz
          refine outG_yes (by simp [wantedV]) ?_
          have q4 : VV 4 = .bool false := hV 4 (by kernel_rfl)
          have e4 := hs 43 4 (by kernel_rfl) (by kernel_rfl)
          have q11 : VV 11 = .bool false := hV 11 (by kernel_rfl)
          have e11 := hs 50 11 (by kernel_rfl) (by kernel_rfl)
          clear hV hs hz
          refine outR_val (by kernel_rfl) (v := .bool false) (w' := W0) ?_ (World.grownBy.refl _ _) rfl
          simp [go_sem, q4, e4, q11, e11]
        · intro VV W0 AA g hV hs hz
          refine outG_yes (by simp [wantedV]) ?_
          have q12 : VV 12 = .bool false := hV 12 (by kernel_rfl)
          have e12 := hs 51 12 (by kernel_rfl) (by kernel_rfl)
          clear hV hs hz
          refine outR_val (by kernel_rfl) (v := .bool false) (w' := W0) ?_ (World.grownBy.refl _ _) rfl
          simp [go_sem, q12, e12]
        · intro VV W0 AA g hV hs hz
          have qg : VV 13 = .bool false := hV 13 (by kernel_rfl)
          refine outG_yes (by simp [wantedV, boolOf, qg]) ?_
          have e07 := hz 7 (.int .i64 0) (by kernel_rfl) rfl
          clear hV hs hz qg
          refine outR_val (by kernel_rfl) (v := .int .i64 0) (w' := W0) ?_ (World.grownBy.refl _ _) rfl
          simp [go_sem, e07]
        · intro VV W0 AA g hV hs hz
          have qg : VV 13 = .bool false := hV 13 (by kernel_rfl)
          refine outG_yes (by simp [wantedV, boolOf, qg]) ?_
          have q14 : VV 14 = .int .i64 0 := hV 14 (by kernel_rfl)
          have e14 := hs 53 14 (by kernel_rfl) (by kernel_rfl)
          clear hV hs hz qg
          refine outR_val (by kernel_rfl) (v := .bool true) (w' := W0) ?_ (World.grownBy.refl _ _) rfl
          simp [go_sem, q14, e14]
        · intro VV W0 AA g hV hs hz
          have qg : VV 13 = .bool false := hV 13 (by kernel_rfl)
          refine outG_yes (by simp [wantedV, boolOf, qg]) ?_
          have q15 : VV 15 = .bool true := hV 15 (by kernel_rfl)
          have e15 := hs 54 15 (by kernel_rfl) (by kernel_rfl)
          clear hV hs hz qg
          refine outR_val (by kernel_rfl) (v := .bool true) (w' := W0) ?_ (World.grownBy.refl _ _) rfl
          simp [go_sem, q15, e15]
        · intro VV W0 AA g hV hs hz
          have qg : VV 16 = .bool true := hV 16 (by kernel_rfl)
          refine outG_yes (by simp [wantedV, boolOf, qg]) ?_
          have e05 := hz 5 (.slice ao p.dl.en.length cp) (by kernel_rfl) rfl
          clear hV hs hz qg
          refine outR_val (by kernel_rfl) (v := .slice ao p.dl.en.length cp) (w' := W0) ?_ (World.grownBy.refl _ _) rfl
          simp [go_sem, e05]
        · intro VV W0 AA g hV hs hz
          have qg : VV 16 = .bool true := hV 16 (by kernel_rfl)
          refine outG_yes (by simp [wantedV, boolOf, qg]) ?_
          have e00 := hz 0 (.slice (some ⟨b, o, none⟩) l.length cap) (by kernel_rfl) rfl
          clear hV hs hz qg
          refine outR_val (by kernel_rfl) (v := .slice (some ⟨b, o, none⟩) l.length cap) (w' := W0) ?_ (World.grownBy.refl _ _) rfl
          simp [go_sem, e00]
        · intro VV W0 AA g hV hs hz
          have qg : VV 16 = .bool true := hV 16 (by kernel_rfl)
          refine outG_yes (by simp [wantedV, boolOf, qg]) ?_
          have e03 := hz 3 (.int .i64 (k : Int)) (by kernel_rfl) rfl
          clear hV hs hz qg
          refine outR_val (by kernel_rfl) (v := .int .i64 (k : Int)) (w' := W0) ?_ (World.grownBy.refl _ _) rfl
          simp [go_sem, e03]
        · intro VV W0 AA g hV hs hz
          have qg : VV 16 = .bool true := hV 16 (by kernel_rfl)
          refine outG_yes (by simp [wantedV, boolOf, qg]) ?_
          have q18 : VV 18 = .slice (some ⟨b, o, none⟩) l.length cap := hV 18 (by kernel_rfl)
          have e18 := hs 57 18 (by kernel_rfl) (by kernel_rfl)
          have q19 : VV 19 = .int .i64 (k : Int) := hV 19 (by kernel_rfl)
          have e19 := hs 58 19 (by kernel_rfl) (by kernel_rfl)
          clear hV hs hz qg
          refine outR_val (by kernel_rfl) (v := .pointer (some ⟨b, o + k * 2, none⟩)) (w' := W0) ?_ (World.grownBy.refl _ _) rfl
          simp [go_sem, q18, e18, q19, e19, hkn']
        · intro VV W0 AA g hV hs hz
          have qg : VV 16 = .bool true := hV 16 (by kernel_rfl)
          refine outG_yes (by simp [wantedV, boolOf, qg]) ?_
          have gD : w4.grownBy W0 none := grown_trans (grown_drew (World.grownBy.refl _ none)) g
          have q20 : VV 20 = .pointer (some ⟨b, o + k * 2, none⟩) := hV 20 (by kernel_rfl)
          have e20 := hs 59 20 (by kernel_rfl) (by kernel_rfl)
          have x0 := (HCW.out W0 gD).1
          have x1 := (HCW.out W0 gD).2.1
          clear hV hs hz qg
          refine outR_val (by kernel_rfl) (v := .agg #[.slice a1 p.types.length k1, .slice a2 p.funcs.length k2]) (w' := W0) ?_ (World.grownBy.refl _ _) rfl
          simp [go_sem, q20, e20, x0, x1]
        · intro VV W0 AA g hV hs hz
          have qg : VV 16 = .bool true := hV 16 (by kernel_rfl)
          refine outG_yes (by simp [wantedV, boolOf, qg]) ?_
          have gD : w4.grownBy W0 none := grown_trans (grown_drew (World.grownBy.refl _ none)) g
          have q21 : VV 21 = .agg #[.slice a1 p.types.length k1, .slice a2 p.funcs.length k2] := hV 21 (by kernel_rfl)
          have e21 := hs 60 21 (by kernel_rfl) (by kernel_rfl)
          clear hV hs hz qg
          refine outR_call (by kernel_rfl) (f := 12) ?_ ((HBy.out W0 gD).mono fun e w2 ⟨v, he, ho, hg⟩ => ⟨v, he, hg, _, ho⟩)
          simp [go_sem, q21, e21]
        · intro VV W0 AA g hV hs hz
          have qg : VV 16 = .bool true := hV 16 (by kernel_rfl)
          refine outG_yes (by simp [wantedV, boolOf, qg]) ?_
          have gD : w4.grownBy W0 none := grown_trans (grown_drew (World.grownBy.refl _ none)) g
          have q17 : VV 17 = .slice ao p.dl.en.length cp := hV 17 (by kernel_rfl)
          have e17 := hs 56 17 (by kernel_rfl) (by kernel_rfl)
          have p22 : ownV p.dl.en (VV 22) W0 := hV 22 (by kernel_rfl)
          have e22 := hs 61 22 (by kernel_rfl) (by kernel_rfl)
          clear hV hs hz qg
          refine outR_call (by kernel_rfl) (f := 11) ?_ ((HEB.out W0 _ gD p22).mono fun e w2 ⟨he, hg⟩ => ⟨_, he, hg, rfl⟩)
          simp [go_sem, q17, e17, e22]
        · intro VV W0 AA g hV hs hz
          have qg : VV 16 = .bool true := hV 16 (by kernel_rfl)
          refine outG_yes (by simp [wantedV, boolOf, qg]) ?_
          have q23 : VV 23 = .bool true := hV 23 (by kernel_rfl)
          have e23 := hs 62 23 (by kernel_rfl) (by kernel_rfl)
          clear hV hs hz qg
          refine outR_val (by kernel_rfl) (v := .bool false) (w' := W0) ?_ (World.grownBy.refl _ _) rfl
          simp [go_sem, q23, e23]
        · intro VV W0 AA g hV hs hz
          have qg : VV 13 = .bool false := hV 13 (by kernel_rfl)
          refine outG_yes (by simp [wantedV, boolOf, qg]) ?_
          have q16 : VV 16 = .bool true := hV 16 (by kernel_rfl)
          have e16 := hs 55 16 (by kernel_rfl) (by kernel_rfl)
          have q24 : VV 24 = .bool false := hV 24 (by kernel_rfl)
          have e24 := hs 63 24 (by kernel_rfl) (by kernel_rfl)
          clear hV hs hz qg
          refine outR_val (by kernel_rfl) (v := .bool false) (w' := W0) ?_ (World.grownBy.refl _ _) rfl
          simp [go_sem, q16, e16, q24, e24]
        · intro VV W0 AA g hV hs hz
          refine outG_yes (by simp [wantedV]) ?_
          have q13 : VV 13 = .bool false := hV 13 (by kernel_rfl)
          have e13 := hs 52 13 (by kernel_rfl) (by kernel_rfl)
          have q25 : VV 25 = .bool false := hV 25 (by kernel_rfl)
          have e25 := hs 64 25 (by kernel_rfl) (by kernel_rfl)
          clear hV hs hz
          refine outR_val (by kernel_rfl) (v := .bool false) (w' := W0) ?_ (World.grownBy.refl _ _) rfl
          simp [go_sem, q13, e13, q25, e25]
        · intro VV W0 AA g hV hs hz
          refine outG_yes (by simp [wantedV]) ?_
          have q26 : VV 26 = .bool false := hV 26 (by kernel_rfl)
          have e26 := hs 65 26 (by kernel_rfl) (by kernel_rfl)
          clear hV hs hz
          refine outR_val (by kernel_rfl) (v := .bool false) (w' := W0) ?_ (World.grownBy.refl _ _) rfl
          simp [go_sem, q26, e26]
        · intro VV W0 AA g hV hs hz
          have qg : VV 27 = .bool false := hV 27 (by kernel_rfl)
          refine outG_yes (by simp [wantedV, boolOf, qg]) ?_
          have gD : w4.grownBy W0 none := grown_trans (grown_drew (World.grownBy.refl _ none)) g
          have e04 := hz 4 (.pointer (some ⟨w2.heap.size, 0, none⟩)) (by kernel_rfl) rfl
          have x0 := (HCW.out W0 gD).2.2.1
          have x1 := (HCW.out W0 gD).2.2.2
          clear hV hs hz qg
          refine outR_val (by kernel_rfl) (v := .agg #[.slice a1' p.types.length k1', .slice a2' p.funcs.length k2']) (w' := W0) ?_ (World.grownBy.refl _ _) rfl
          simp [go_sem, e04, x0, x1]
        · intro VV W0 AA g hV hs hz
          have qg : VV 27 = .bool false := hV 27 (by kernel_rfl)
          refine outG_yes (by simp [wantedV, boolOf, qg]) ?_
          have e00 := hz 0 (.slice (some ⟨b, o, none⟩) l.length cap) (by kernel_rfl) rfl
          clear hV hs hz qg
          refine outR_val (by kernel_rfl) (v := .slice (some ⟨b, o, none⟩) l.length cap) (w' := W0) ?_ (World.grownBy.refl _ _) rfl
          simp [go_sem, e00]
        · intro VV W0 AA g hV hs hz
          have qg : VV 27 = .bool false := hV 27 (by kernel_rfl)
          refine outG_yes (by simp [wantedV, boolOf, qg]) ?_
          have e03 := hz 3 (.int .i64 (k : Int)) (by kernel_rfl) rfl
          clear hV hs hz qg
          refine outR_val (by kernel_rfl) (v := .int .i64 (k : Int)) (w' := W0) ?_ (World.grownBy.refl _ _) rfl
          simp [go_sem, e03]
        · intro VV W0 AA g hV hs hz
          have qg : VV 27 = .bool false := hV 27 (by kernel_rfl)
          refine outG_yes (by simp [wantedV, boolOf, qg]) ?_
          have q29 : VV 29 = .slice (some ⟨b, o, none⟩) l.length cap := hV 29 (by kernel_rfl)
          have e29 := hs 68 29 (by kernel_rfl) (by kernel_rfl)
          have q30 : VV 30 = .int .i64 (k : Int) := hV 30 (by kernel_rfl)
          have e30 := hs 69 30 (by kernel_rfl) (by kernel_rfl)
          clear hV hs hz qg
          refine outR_val (by kernel_rfl) (v := .pointer (some ⟨b, o + k * 2, none⟩)) (w' := W0) ?_ (World.grownBy.refl _ _) rfl
          simp [go_sem, q29, e29, q30, e30, hkn']
        · intro VV W0 AA g hV hs hz
          have qg : VV 27 = .bool false := hV 27 (by kernel_rfl)
          refine outG_yes (by simp [wantedV, boolOf, qg]) ?_
          have gD : w4.grownBy W0 none := grown_trans (grown_drew (World.grownBy.refl _ none)) g
          have q31 : VV 31 = .pointer (some ⟨b, o + k * 2, none⟩) := hV 31 (by kernel_rfl)
          have e31 := hs 70 31 (by kernel_rfl) (by kernel_rfl)
          have x0 := (HCW.out W0 gD).1
          have x1 := (HCW.out W0 gD).2.1
          clear hV hs hz qg
          refine outR_val (by kernel_rfl) (v := .agg #[.slice a1 p.types.length k1, .slice a2 p.funcs.length k2]) (w' := W0) ?_ (World.grownBy.refl _ _) rfl
          simp [go_sem, q31, e31, x0, x1]
        · intro VV W0 AA g hV hs hz
          have qg : VV 27 = .bool false := hV 27 (by kernel_rfl)
          refine outG_yes (by simp [wantedV, boolOf, qg]) ?_
          have gD : w4.grownBy W0 none := grown_trans (grown_drew (World.grownBy.refl _ none)) g
          have q28 : VV 28 = .agg #[.slice a1' p.types.length k1', .slice a2' p.funcs.length k2'] := hV 28 (by kernel_rfl)
          have e28 := hs 67 28 (by kernel_rfl) (by kernel_rfl)
          have q32 : VV 32 = .agg #[.slice a1 p.types.length k1, .slice a2 p.funcs.length k2] := hV 32 (by kernel_rfl)
          have e32 := hs 71 32 (by kernel_rfl) (by kernel_rfl)
          clear hV hs hz qg
          refine outR_call (by kernel_rfl) (f := 13) ?_ ((HEP.out W0 gD).mono fun e w2 ⟨he, hg⟩ => ⟨_, he, hg, rfl⟩)
          simp [go_sem, q28, e28, q32, e32]
        · intro VV W0 AA g hV hs hz
          have qg : VV 27 = .bool false := hV 27 (by kernel_rfl)
          refine outG_yes (by simp [wantedV, boolOf, qg]) ?_
          have q33 : VV 33 = .bool true := hV 33 (by kernel_rfl)
          have e33 := hs 72 33 (by kernel_rfl) (by kernel_rfl)
          clear hV hs hz qg
          refine outR_val (by kernel_rfl) (v := .bool false) (w' := W0) ?_ (World.grownBy.refl _ _) rfl
          simp [go_sem, q33, e33]
      · intro VV W0 g hV
        have gD : w4.grownBy W0 none := grown_trans (grown_drew (World.grownBy.refl _ none)) g
        have h0 : VV 0 = .int .i64 0 := hV 0 (by decide)
        have h1 : VV 1 = .int .i64 0 := hV 1 (by decide)
        have h2 : VV 2 = .int .i64 0 := hV 2 (by decide)
        have h3 : VV 3 = .bool false := hV 3 (by decide)
        have h4 : VV 4 = .bool false := hV 4 (by decide)
        have h5 : VV 5 = .int .i64 0 := hV 5 (by decide)
        have h6 : VV 6 = .bool false := hV 6 (by decide)
        have h7 : VV 7 = .bool false := hV 7 (by decide)
        have h8 : VV 8 = undef := hV 8 (by decide)
        have h9 : VV 9 = undef := hV 9 (by decide)
        have h10 : VV 10 = undef := hV 10 (by decide)
        have h11 : VV 11 = .bool false := hV 11 (by decide)
        have h12 : VV 12 = .bool false := hV 12 (by decide)
        have h13 : VV 13 = .bool false := hV 13 (by decide)
        have h14 : VV 14 = .int .i64 0 := hV 14 (by decide)
        have h15 : VV 15 = .bool true := hV 15 (by decide)
        have h16 : VV 16 = .bool true := hV 16 (by decide)
        have h17 : VV 17 = .slice ao p.dl.en.length cp := hV 17 (by decide)
        have h18 : VV 18 = .slice (some ⟨b, o, none⟩) l.length cap := hV 18 (by decide)
        have h19 : VV 19 = .int .i64 (k : Int) := hV 19 (by decide)
        have h20 : VV 20 = .pointer (some ⟨b, o + k * 2, none⟩) := hV 20 (by decide)
        have h21 : VV 21 = .agg #[.slice a1 p.types.length k1, .slice a2 p.funcs.length k2] := hV 21 (by decide)
        have h23 : VV 23 = .bool true := hV 23 (by decide)
        have h24 : VV 24 = .bool false := hV 24 (by decide)
        have h25 : VV 25 = .bool false := hV 25 (by decide)
        have h26 : VV 26 = .bool false := hV 26 (by decide)
        have h27 : VV 27 = .bool false := hV 27 (by decide)
        have h28 : VV 28 = .agg #[.slice a1' p.types.length k1', .slice a2' p.funcs.length k2'] := hV 28 (by decide)
        have h29 : VV 29 = .slice (some ⟨b, o, none⟩) l.length cap := hV 29 (by decide)
        have h30 : VV 30 = .int .i64 (k : Int) := hV 30 (by decide)
        have h31 : VV 31 = .pointer (some ⟨b, o + k * 2, none⟩) := hV 31 (by decide)
        have h32 : VV 32 = .agg #[.slice a1 p.types.length k1, .slice a2 p.funcs.length k2] := hV 32 (by decide)
        have h33 : VV 33 = .bool true := hV 33 (by decide)
        have h34 : VV 34 = .bool false := hV 34 (by decide)
        simp [frV, dstOf, Act.put, h0, h1, h2, h3, h4, h5, h6, h7, h8, h9, h10, h11, h12, h13, h14, h15, h16, h17, h18, h19, h20, h21, h23, h24, h25, h26, h27, h28, h29, h30, h31, h32, h33, h34]
        clear h0 h1 h2 h3 h4 h5 h6 h7 h8 h9 h10 h11 h12 h13 h14 h15 h16 h17 h18 h19 h20 h21 h23 h24 h25 h26 h27 h28 h29 h30 h31 h32 h33 h34 hV g
        generalize VV 22 = vv22
        have GR : Hid (w4.grownBy W0 none) := gD
        clear gD
        go_wp2_with (go_at_call 14; refine (HSp.out _ GR.out).mono ?_; rintro e w9 ⟨rfl, hg9⟩; have G9 : Hid (w.grownBy w9 none) := hg9; clear hg9)
        go_roundw
        case rel => exact ⟨k + 1, by go_num, by omega, by omega, G9.out⟩
        case measure => simp [intOf]; omega
    · have HR : Hid (p.rerr = p.err) := b4.symm
      have HNE : Hid (p.err ≠ 0) := he
      obtain ⟨E, hE⟩ : ∃ E, E = p.err := ⟨_, rfl⟩
      have HE : Hid (E = p.err) := hE
      have hne : (E != 0) = true := by rw [hE]; simpa using he
      have heq0 : (E == 0) = false := by rw [hE]; simpa using he
      clear he b4 hE
      go_wp2_with (first
        | (go_at_call 7; refine HCP.out.mono ?_; rintro e w2 ⟨a1', k1', a2', k2', rfl, ⟨hT, hF⟩, hg2⟩; have G2 : Hid (w1.grownBy w2 none) := hg2; have HT : Hid (∀ W, w2.grownBy W none → TpL (fun q => q < w2.heap.size) W a1' k1' p.types ∧ FnL (fun q => q < w2.heap.size) W a2' k2' p.funcs) := (fun W g => ⟨TpL.ch hT (l := []) (Ch.of g) (by simp) (fun _ h => h.2), FnL.ch hF (l := []) (Ch.of g) (by simp) (fun _ h => h.2)⟩); have HEn : Hid (Calls Try.prog 8 #[.agg #[.slice a1' p.types.length k1', .slice a2' p.funcs.length k2']] (w2.alloc (.cells #[.slice a1' p.types.length k1', .slice a2' p.funcs.length k2'] 27)) fun e w' => e = .returned (.tuple #[.slice none 0 0, .int .i64 E]) ∧ (w2.alloc (.cells #[.slice a1' p.types.length k1', .slice a2' p.funcs.length k2'] 27)).grownBy w' none) := (by have := encode_no (w := w2.alloc (.cells #[.slice a1' p.types.length k1', .slice a2' p.funcs.length k2'] 27)) (p := p) (a1 := a1') (a2 := a2') (k1 := k1') (k2 := k2') ⟨(TpL.grow (TpL.ch hT (l := []) (Ch.refl _ _) (by simp) (fun q h => by simp; omega)) (World.grownBy_alloc _ _ _)), (FnL.grow (FnL.ch hF (l := []) (Ch.refl _ _) (by simp) (fun q h => by simp; omega)) (World.grownBy_alloc _ _ _))⟩ B1.out HNE.out; rw [← HE.out] at this; exact this); clear hT hF hg2 HCP)
        | (go_at_call 8; refine HEn.out.mono ?_; rintro e w3 ⟨rfl, hg3⟩; have P3 : Hid (w3.heap[w2.heap.size]? = some (.cells #[.slice a1' p.types.length k1', .slice a2' p.funcs.length k2'] 27)) := ((hg3.block _ (by simp) (by simp)).trans (heap_alloc_new w2 _)); have G3 : Hid (w2.grownBy w3 none) := grown_trans (World.grownBy_alloc _ _ _) hg3; obtain ⟨n0, n1, hp3⟩ := HC0.out w3 (grown_trans G1.out (grown_trans G2.out G3.out)); have HRe : Hid (Calls Try.prog 9 #[.agg #[.slice a1 p.types.length k1, .slice a2 p.funcs.length k2]] w3 fun e w' => e = .returned (.int .i64 p.rerr) ∧ w3.grownBy w' none) := rencode8 hp3 B2.out; rw [HR.out, ← HE.out] at HRe; clear hg3 hp3 HEn)
        | (go_at_call 9; refine HRe.out.mono ?_; rintro e w4 ⟨rfl, hg4⟩; have G4 : Hid (w3.grownBy w4 none) := hg4; clear hg4 HRe))
      have G14 : w1.grownBy w4 none := grown_trans G2.out (grown_trans G3.out G4.out)
      have HCW : Hid (∀ W, w4.grownBy W none → W.cell? ⟨b, o + k * 2, none⟩ = some (.slice a1 p.types.length k1) ∧ W.cell? ⟨b, o + k * 2 + 1, none⟩ = some (.slice a2 p.funcs.length k2) ∧ W.cell? ⟨w2.heap.size, 0, none⟩ = some (.slice a1' p.types.length k1') ∧ W.cell? ⟨w2.heap.size, 1, none⟩ = some (.slice a2' p.funcs.length k2')) := fun W g => by
        obtain ⟨z0, z1, _⟩ := HC0.out W (grown_trans G1.out (grown_trans G14 g))
        have gg := grown_trans G4.out g
        exact ⟨z0, z1, gg.cell (rcell P3.out 0) (by simp), gg.cell (rcell P3.out 1) (by simp)⟩
      have HEP : Hid (∀ W, w4.grownBy W none → Calls Try.prog 13 #[.agg #[.slice a1' p.types.length k1', .slice a2' p.funcs.length k2'], .agg #[.slice a1 p.types.length k1, .slice a2 p.funcs.length k2]] W fun e w' => e = .returned (.bool true) ∧ W.grownBy w' none) := fun W g => by
        obtain ⟨_, _, hp⟩ := HC0.out W (grown_trans G1.out (grown_trans G14 g))
        obtain ⟨t1, t2⟩ := HT.out W (grown_trans G3.out (grown_trans G4.out g))
        exact eqProgram_true t1 hp.t t2 hp.f
      have HSp : Hid (∀ W, w4.grownBy W none → Calls Try.prog 14 #[.slice none 0 0] W fun e w' => e = .returned (.tuple #[]) ∧ w.grownBy w' none) := fun W g => (spoil_nil 0 W).mono fun e w' ⟨he, hg⟩ => ⟨he, grown_trans HG.out (grown_trans G1.out (grown_trans G14 (grown_trans g hg)))⟩
      clear m0 m1 n0 n1 c0 c1
      refine region_gd (fun w w' => w.grownBy w' none) (fun h1 h2 => grown_trans h1 h2) (fun w => World.grownBy.refl _ _) 35 (psiL [eqV (.int .i64 E), eqV (.int .i64 E), eqV (.int .i64 E), eqV (.bool false), eqV (.bool false), eqV (.int .i64 E), eqV (.bool true), eqV (.bool true), eqV (.slice none 0 0), eqV (.int .i64 (0 : Int)), eqV (.bool false), eqV (.bool false), eqV (.bool false), eqV (.bool false), eqV (.int .i64 E), eqV (.bool false), eqV (.bool false), eqV (undef), eqV (undef), eqV (undef), eqV (undef), eqV (undef), eqV (undef), eqV (undef), eqV (undef), eqV (.bool false), eqV (.bool false), eqV (.bool false), eqV (.agg #[.slice a1' p.types.length k1', .slice a2' p.funcs.length k2']), eqV (.slice (some ⟨b, o, none⟩) l.length cap), eqV (.int .i64 (k : Int)), eqV (.pointer (some ⟨b, o + k * 2, none⟩)), eqV (.agg #[.slice a1 p.types.length k1, .slice a2 p.funcs.length k2]), eqV (.bool true), eqV (.bool false)]) (by kernel_rfl) (by kernel_rfl) (by kernel_rfl) (by kernel_rfl) (psiL_hst (by repeat (first | exact stab_nil | refine stab_cons ?_ ?_ | exact stab_eq _))) ?_ ?_
      · simp only [List.take_succ_cons, List.take_zero]
        refine ⟨?_, ?_, ?_, ?_, ?_, ?_, ?_, ?_, ?_, ?_, ?_, ?_, ?_, ?_, ?_, ?_, ?_, ?_, ?_, ?_, ?_, ?_, ?_, ?_, ?_, ?_, ?_, ?_, ?_, ?_, ?_, ?_, ?_, ?_, ?_, trivial⟩
        · intro VV W0 AA g hV hs hz
          refine outG_yes (by simp [wantedV]) ?_
          have e06 := hz 6 (.int .i64 E) (by kernel_rfl) rfl
          clear hV hs hz
          refine outR_val (by kernel_rfl) (v := .int .i64 E) (w' := W0) ?_ (World.grownBy.refl _ _) rfl
          simp [go_sem, e06]
        · intro VV W0 AA g hV hs hz
          refine outG_yes (by simp [wantedV]) ?_
          have gD : w4.grownBy W0 none := grown_trans (grown_drew (World.grownBy.refl _ none)) g
          have q0 : VV 0 = .int .i64 E := hV 0 (by kernel_rfl)
          have e0 := hs 39 0 (by kernel_rfl) (by kernel_rfl)
          clear hV hs hz
          refine outR_call (by kernel_rfl) (f := 10) ?_ ((num8 _ _).mono fun e w2 ⟨he, hw⟩ => ⟨_, he, by rw [hw]; exact World.grownBy.refl _ _, rfl⟩)
          simp [go_sem, q0, e0]
        · intro VV W0 AA g hV hs hz
          refine outG_yes (by simp [wantedV]) ?_
          have e07 := hz 7 (.int .i64 E) (by kernel_rfl) rfl
          clear hV hs hz
          refine outR_val (by kernel_rfl) (v := .int .i64 E) (w' := W0) ?_ (World.grownBy.refl _ _) rfl
          simp [go_sem, e07]
        · intro VV W0 AA g hV hs hz
          refine outG_yes (by simp [wantedV]) ?_
          have q1 : VV 1 = .int .i64 E := hV 1 (by kernel_rfl)
          have e1 := hs 40 1 (by kernel_rfl) (by kernel_rfl)
          have q2 : VV 2 = .int .i64 E := hV 2 (by kernel_rfl)
          have e2 := hs 41 2 (by kernel_rfl) (by kernel_rfl)
          clear hV hs hz
          refine outR_val (by kernel_rfl) (v := .bool false) (w' := W0) ?_ (World.grownBy.refl _ _) rfl
          simp [go_sem, q1, e1, q2, e2]
        · intro VV W0 AA g hV hs hz
          refine outG_yes (by simp [wantedV]) ?_
          have q3 : VV 3 = .bool false := hV 3 (by kernel_rfl)
          have e3 := hs 42 3 (by kernel_rfl) (by kernel_rfl)
          clear hV hs hz
          refine outR_val (by kernel_rfl) (v := .bool false) (w' := W0) ?_ (World.grownBy.refl _ _) rfl
          simp [go_sem, q3, e3]
        · intro VV W0 AA g hV hs hz
          have qg : VV 4 = .bool false := hV 4 (by kernel_rfl)
          refine outG_yes (by simp [wantedV, boolOf, qg]) ?_
          have e07 := hz 7 (.int .i64 E) (by kernel_rfl) rfl
          clear hV hs hz qg
          refine outR_val (by kernel_rfl) (v := .int .i64 E) (w' := W0) ?_ (World.grownBy.refl _ _) rfl
          simp [go_sem, e07]
        · intro VV W0 AA g hV hs hz
          have qg : VV 4 = .bool false := hV 4 (by kernel_rfl)
          refine outG_yes (by simp [wantedV, boolOf, qg]) ?_
          have q5 : VV 5 = .int .i64 E := hV 5 (by kernel_rfl)
          have e5 := hs 44 5 (by kernel_rfl) (by kernel_rfl)
          clear hV hs hz qg
          refine outR_val (by kernel_rfl) (v := .bool true) (w' := W0) ?_ (World.grownBy.refl _ _) rfl
          simp [go_sem, q5, e5, hne]
        · intro VV W0 AA g hV hs hz
          have qg : VV 4 = .bool false := hV 4 (by kernel_rfl)
          refine outG_yes (by simp [wantedV, boolOf, qg]) ?_
          have q6 : VV 6 = .bool true := hV 6 (by kernel_rfl)
          have e6 := hs 45 6 (by kernel_rfl) (by kernel_rfl)
          clear hV hs hz qg
          refine outR_val (by kernel_rfl) (v := .bool true) (w' := W0) ?_ (World.grownBy.refl _ _) rfl
          simp [go_sem, q6, e6]
        · intro VV W0 AA g hV hs hz
          have qg : VV 7 = .bool true := hV 7 (by kernel_rfl)
          refine outG_yes (by simp [wantedV, boolOf, qg]) ?_
          have e05 := hz 5 (.slice none 0 0) (by kernel_rfl) rfl
          clear hV hs hz qg
          refine outR_val (by kernel_rfl) (v := .slice none 0 0) (w' := W0) ?_ (World.grownBy.refl _ _) rfl
          simp [go_sem, e05]
        · intro VV W0 AA g hV hs hz
          have qg : VV 7 = .bool true := hV 7 (by kernel_rfl)
          refine outG_yes (by simp [wantedV, boolOf, qg]) ?_
          have q8 : VV 8 = .slice none 0 0 := hV 8 (by kernel_rfl)
          have e8 := hs 47 8 (by kernel_rfl) (by kernel_rfl)
          clear hV hs hz qg
          refine outR_val (by kernel_rfl) (v := .int .i64 (0 : Int)) (w' := W0) ?_ (World.grownBy.refl _ _) rfl
          simp [go_sem, q8, e8]
        · intro VV W0 AA g hV hs hz
          have qg : VV 7 = .bool true := hV 7 (by kernel_rfl)
          refine outG_yes (by simp [wantedV, boolOf, qg]) ?_
          have q9 : VV 9 = .int .i64 (0 : Int) := hV 9 (by kernel_rfl)
          have e9 := hs 48 9 (by kernel_rfl) (by kernel_rfl)
          clear hV hs hz qg
          refine outR_val (by kernel_rfl) (v := .bool false) (w' := W0) ?_ (World.grownBy.refl _ _) rfl
          simp [go_sem, q9, e9]
        · intro VV W0 AA g hV hs hz
          have qg : VV 4 = .bool false := hV 4 (by kernel_rfl)
          refine outG_yes (by simp [wantedV, boolOf, qg]) ?_
          have q7 : VV 7 = .bool true := hV 7 (by kernel_rfl)
          have e7 := hs 46 7 (by kernel_rfl) (by kernel_rfl)
          have q10 : VV 10 = .bool false := hV 10 (by kernel_rfl)
          have e10 := hs 49 10 (by kernel_rfl) (by kernel_rfl)
          clear hV hs hz qg
          refine outR_val (by kernel_rfl) (v := .bool false) (w' := W0) ?_ (World.grownBy.refl _ _) rfl
          simp [go_sem, q7, e7, q10, e10]
        · intro VV W0 AA g hV hs hz
          refine outG_yes (by simp [wantedV]) ?_
          have q4 : VV 4 = .bool false := hV 4 (by kernel_rfl)
          have e4 := hs 43 4 (by kernel_rfl) (by kernel_rfl)
          have q11 : VV 11 = .bool false := hV 11 (by kernel_rfl)
          have e11 := hs 50 11 (by kernel_rfl) (by kernel_rfl)
          clear hV hs hz
          refine outR_val (by kernel_rfl) (v := .bool false) (w' := W0) ?_ (World.grownBy.refl _ _) rfl
          simp [go_sem, q4, e4, q11, e11]
        · intro VV W0 AA g hV hs hz
          refine outG_yes (by simp [wantedV]) ?_
          have q12 : VV 12 = .bool false := hV 12 (by kernel_rfl)
          have e12 := hs 51 12 (by kernel_rfl) (by kernel_rfl)
          clear hV hs hz
          refine outR_val (by kernel_rfl) (v := .bool false) (w' := W0) ?_ (World.grownBy.refl _ _) rfl
          simp [go_sem, q12, e12]
        · intro VV W0 AA g hV hs hz
          have qg : VV 13 = .bool false := hV 13 (by kernel_rfl)
          refine outG_yes (by simp [wantedV, boolOf, qg]) ?_
          have e07 := hz 7 (.int .i64 E) (by kernel_rfl) rfl
          clear hV hs hz qg
          refine outR_val (by kernel_rfl) (v := .int .i64 E) (w' := W0) ?_ (World.grownBy.refl _ _) rfl
          simp [go_sem, e07]
        · intro VV W0 AA g hV hs hz
          have qg : VV 13 = .bool false := hV 13 (by kernel_rfl)
          refine outG_yes (by simp [wantedV, boolOf, qg]) ?_
          have q14 : VV 14 = .int .i64 E := hV 14 (by kernel_rfl)
          have e14 := hs 53 14 (by kernel_rfl) (by kernel_rfl)
          clear hV hs hz qg
          refine outR_val (by kernel_rfl) (v := .bool false) (w' := W0) ?_ (World.grownBy.refl _ _) rfl
          simp [go_sem, q14, e14, heq0]
        · intro VV W0 AA g hV hs hz
          have qg : VV 13 = .bool false := hV 13 (by kernel_rfl)
          refine outG_yes (by simp [wantedV, boolOf, qg]) ?_
          have q15 : VV 15 = .bool false := hV 15 (by kernel_rfl)
          have e15 := hs 54 15 (by kernel_rfl) (by kernel_rfl)
          clear hV hs hz qg
          refine outR_val (by kernel_rfl) (v := .bool false) (w' := W0) ?_ (World.grownBy.refl _ _) rfl
          simp [go_sem, q15, e15]
        · intro VV W0 AA g hV hs hz
          have qg : VV 16 = .bool false := hV 16 (by kernel_rfl)
          exact outG_no (by simp [wantedV, boolOf, qg]) rfl
        · intro VV W0 AA g hV hs hz
          have qg : VV 16 = .bool false := hV 16 (by kernel_rfl)
          exact outG_no (by simp [wantedV, boolOf, qg]) rfl
        · intro VV W0 AA g hV hs hz
          have qg : VV 16 = .bool false := hV 16 (by kernel_rfl)
          exact outG_no (by simp [wantedV, boolOf, qg]) rfl
        · intro VV W0 AA g hV hs hz
          have qg : VV 16 = .bool false := hV 16 (by kernel_rfl)
          exact outG_no (by simp [wantedV, boolOf, qg]) rfl
        · intro VV W0 AA g hV hs hz
          have qg : VV 16 = .bool false := hV 16 (by kernel_rfl)
          exact outG_no (by simp [wantedV, boolOf, qg]) rfl
        · intro VV W0 AA g hV hs hz
          have qg : VV 16 = .bool false := hV 16 (by kernel_rfl)
          exact outG_no (by simp [wantedV, boolOf, qg]) rfl
        · intro VV W0 AA g hV hs hz
          have qg : VV 16 = .bool false := hV 16 (by kernel_rfl)
          exact outG_no (by simp [wantedV, boolOf, qg]) rfl
        · intro VV W0 AA g hV hs hz
          have qg : VV 16 = .bool false := hV 16 (by kernel_rfl)
          exact outG_no (by simp [wantedV, boolOf, qg]) rfl
        · intro VV W0 AA g hV hs hz
          have qg : VV 13 = .bool false := hV 13 (by kernel_rfl)
          refine outG_yes (by simp [wantedV, boolOf, qg]) ?_
          have q16 : VV 16 = .bool false := hV 16 (by kernel_rfl)
          have e16 := hs 55 16 (by kernel_rfl) (by kernel_rfl)
          have q24 : VV 24 = undef := hV 24 (by kernel_rfl)
          have e24 := hs 63 24 (by kernel_rfl) (by kernel_rfl)
          clear hV hs hz qg
          refine outR_val (by kernel_rfl) (v := .bool false) (w' := W0) ?_ (World.grownBy.refl _ _) rfl
          simp [go_sem, q16, e16, q24, e24]
        · intro VV W0 AA g hV hs hz
          refine outG_yes (by simp [wantedV]) ?_
          have q13 : VV 13 = .bool false := hV 13 (by kernel_rfl)
          have e13 := hs 52 13 (by kernel_rfl) (by kernel_rfl)
          have q25 : VV 25 = .bool false := hV 25 (by kernel_rfl)
          have e25 := hs 64 25 (by kernel_rfl) (by kernel_rfl)
          clear hV hs hz
          refine outR_val (by kernel_rfl) (v := .bool false) (w' := W0) ?_ (World.grownBy.refl _ _) rfl
          simp [go_sem, q13, e13, q25, e25]
        · intro VV W0 AA g hV hs hz
          refine outG_yes (by simp [wantedV]) ?_
          have q26 : VV 26 = .bool false := hV 26 (by kernel_rfl)
          have e26 := hs 65 26 (by kernel_rfl) (by kernel_rfl)
          clear hV hs hz
          refine outR_val (by kernel_rfl) (v := .bool false) (w' := W0) ?_ (World.grownBy.refl _ _) rfl
          simp [go_sem, q26, e26]
        · intro VV W0 AA g hV hs hz
          have qg : VV 27 = .bool false := hV 27 (by kernel_rfl)
          refine outG_yes (by simp [wantedV, boolOf, qg]) ?_
          have gD : w4.grownBy W0 none := grown_trans (grown_drew (World.grownBy.refl _ none)) g
          have e04 := hz 4 (.pointer (some ⟨w2.heap.size, 0, none⟩)) (by kernel_rfl) rfl
          have x0 := (HCW.out W0 gD).2.2.1
          have x1 := (HCW.out W0 gD).2.2.2
          clear hV hs hz qg
          refine outR_val (by kernel_rfl) (v := .agg #[.slice a1' p.types.length k1', .slice a2' p.funcs.length k2']) (w' := W0) ?_ (World.grownBy.refl _ _) rfl
          simp [go_sem, e04, x0, x1]
        · intro VV W0 AA g hV hs hz
          have qg : VV 27 = .bool false := hV 27 (by kernel_rfl)
          refine outG_yes (by simp [wantedV, boolOf, qg]) ?_
          have e00 := hz 0 (.slice (some ⟨b, o, none⟩) l.length cap) (by kernel_rfl) rfl
          clear hV hs hz qg
          refine outR_val (by kernel_rfl) (v := .slice (some ⟨b, o, none⟩) l.length cap) (w' := W0) ?_ (World.grownBy.refl _ _) rfl
          simp [go_sem, e00]
        · intro VV W0 AA g hV hs hz
          have qg : VV 27 = .bool false := hV 27 (by kernel_rfl)
          refine outG_yes (by simp [wantedV, boolOf, qg]) ?_
          have e03 := hz 3 (.int .i64 (k : Int)) (by kernel_rfl) rfl
          clear hV hs hz qg
          refine outR_val (by kernel_rfl) (v := .int .i64 (k : Int)) (w' := W0) ?_ (World.grownBy.refl _ _) rfl
          simp [go_sem, e03]
        · intro VV W0 AA g hV hs hz
          have qg : VV 27 = .bool false := hV 27 (by kernel_rfl)
          refine outG_yes (by simp [wantedV, boolOf, qg]) ?_
          have q29 : VV 29 = .slice (some ⟨b, o, none⟩) l.length cap := hV 29 (by kernel_rfl)
          have e29 := hs 68 29 (by kernel_rfl) (by kernel_rfl)
          have q30 : VV 30 = .int .i64 (k : Int) := hV 30 (by kernel_rfl)
          have e30 := hs 69 30 (by kernel_rfl) (by kernel_rfl)
          clear hV hs hz qg
          refine outR_val (by kernel_rfl) (v := .pointer (some ⟨b, o + k * 2, none⟩)) (w' := W0) ?_ (World.grownBy.refl _ _) rfl
          simp [go_sem, q29, e29, q30, e30, hkn']
        · intro VV W0 AA g hV hs hz
          have qg : VV 27 = .bool false := hV 27 (by kernel_rfl)
          refine outG_yes (by simp [wantedV, boolOf, qg]) ?_
          have gD : w4.grownBy W0 none := grown_trans (grown_drew (World.grownBy.refl _ none)) g
          have q31 : VV 31 = .pointer (some ⟨b, o + k * 2, none⟩) := hV 31 (by kernel_rfl)
          have e31 := hs 70 31 (by kernel_rfl) (by kernel_rfl)
          have x0 := (HCW.out W0 gD).1
          have x1 := (HCW.out W0 gD).2.1
          clear hV hs hz qg
          refine outR_val (by kernel_rfl) (v := .agg #[.slice a1 p.types.length k1, .slice a2 p.funcs.length k2]) (w' := W0) ?_ (World.grownBy.refl _ _) rfl
          simp [go_sem, q31, e31, x0, x1]
        · intro VV W0 AA g hV hs hz
          have qg : VV 27 = .bool false := hV 27 (by kernel_rfl)
          refine outG_yes (by simp [wantedV, boolOf, qg]) ?_
          have gD : w4.grownBy W0 none := grown_trans (grown_drew (World.grownBy.refl _ none)) g
          have q28 : VV 28 = .agg #[.slice a1' p.types.length k1', .slice a2' p.funcs.length k2'] := hV 28 (by kernel_rfl)
          have e28 := hs 67 28 (by kernel_rfl) (by kernel_rfl)
          have q32 : VV 32 = .agg #[.slice a1 p.types.length k1, .slice a2 p.funcs.length k2] := hV 32 (by kernel_rfl)
          have e32 := hs 71 32 (by kernel_rfl) (by kernel_rfl)
          clear hV hs hz qg
          refine outR_call (by kernel_rfl) (f := 13) ?_ ((HEP.out W0 gD).mono fun e w2 ⟨he, hg⟩ => ⟨_, he, hg, rfl⟩)
          simp [go_sem, q28, e28, q32, e32]
        · intro VV W0 AA g hV hs hz
          have qg : VV 27 = .bool false := hV 27 (by kernel_rfl)
          refine outG_yes (by simp [wantedV, boolOf, qg]) ?_
          have q33 : VV 33 = .bool true := hV 33 (by kernel_rfl)
          have e33 := hs 72 33 (by kernel_rfl) (by kernel_rfl)
          clear hV hs hz qg
          refine outR_val (by kernel_rfl) (v := .bool false) (w' := W0) ?_ (World.grownBy.refl _ _) rfl
          simp [go_sem, q33, e33]
      · intro VV W0 g hV
        have gD : w4.grownBy W0 none := grown_trans (grown_drew (World.grownBy.refl _ none)) g
        have h0 : VV 0 = .int .i64 E := hV 0 (by decide)
        have h1 : VV 1 = .int .i64 E := hV 1 (by decide)
        have h2 : VV 2 = .int .i64 E := hV 2 (by decide)
        have h3 : VV 3 = .bool false := hV 3 (by decide)
        have h4 : VV 4 = .bool false := hV 4 (by decide)
        have h5 : VV 5 = .int .i64 E := hV 5 (by decide)
        have h6 : VV 6 = .bool true := hV 6 (by decide)
        have h7 : VV 7 = .bool true := hV 7 (by decide)
        have h8 : VV 8 = .slice none 0 0 := hV 8 (by decide)
        have h9 : VV 9 = .int .i64 (0 : Int) := hV 9 (by decide)
        have h10 : VV 10 = .bool false := hV 10 (by decide)
        have h11 : VV 11 = .bool false := hV 11 (by decide)
        have h12 : VV 12 = .bool false := hV 12 (by decide)
        have h13 : VV 13 = .bool false := hV 13 (by decide)
        have h14 : VV 14 = .int .i64 E := hV 14 (by decide)
        have h15 : VV 15 = .bool false := hV 15 (by decide)
        have h16 : VV 16 = .bool false := hV 16 (by decide)
        have h17 : VV 17 = undef := hV 17 (by decide)
        have h18 : VV 18 = undef := hV 18 (by decide)
        have h19 : VV 19 = undef := hV 19 (by decide)
        have h20 : VV 20 = undef := hV 20 (by decide)
        have h21 : VV 21 = undef := hV 21 (by decide)
        have h22 : VV 22 = undef := hV 22 (by decide)
        have h23 : VV 23 = undef := hV 23 (by decide)
        have h24 : VV 24 = undef := hV 24 (by decide)
        have h25 : VV 25 = .bool false := hV 25 (by decide)
        have h26 : VV 26 = .bool false := hV 26 (by decide)
        have h27 : VV 27 = .bool false := hV 27 (by decide)
        have h28 : VV 28 = .agg #[.slice a1' p.types.length k1', .slice a2' p.funcs.length k2'] := hV 28 (by decide)
        have h29 : VV 29 = .slice (some ⟨b, o, none⟩) l.length cap := hV 29 (by decide)
        have h30 : VV 30 = .int .i64 (k : Int) := hV 30 (by decide)
        have h31 : VV 31 = .pointer (some ⟨b, o + k * 2, none⟩) := hV 31 (by decide)
        have h32 : VV 32 = .agg #[.slice a1 p.types.length k1, .slice a2 p.funcs.length k2] := hV 32 (by decide)
        have h33 : VV 33 = .bool true := hV 33 (by decide)
        have h34 : VV 34 = .bool false := hV 34 (by decide)
        simp [frV, dstOf, Act.put, h0, h1, h2, h3, h4, h5, h6, h7, h8, h9, h10, h11, h12, h13, h14, h15, h16, h17, h18, h19, h20, h21, h22, h23, h24, h25, h26, h27, h28, h29, h30, h31, h32, h33, h34]
        clear h0 h1 h2 h3 h4 h5 h6 h7 h8 h9 h10 h11 h12 h13 h14 h15 h16 h17 h18 h19 h20 h21 h22 h23 h24 h25 h26 h27 h28 h29 h30 h31 h32 h33 h34 hV g
        have GR : Hid (w4.grownBy W0 none) := gD
        clear gD
        go_wp2_with (go_at_call 14; refine (HSp.out _ GR.out).mono ?_; rintro e w9 ⟨rfl, hg9⟩; have G9 : Hid (w.grownBy w9 none) := hg9; clear hg9)
        go_roundw
        case rel => exact ⟨k + 1, by go_num, by omega, by omega, G9.out⟩
        case measure => simp [intOf]; omega
end Go.Proofs.Ytljdjkiejppenaa
