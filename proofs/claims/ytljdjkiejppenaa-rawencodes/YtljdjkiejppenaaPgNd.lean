/- gantryref8: how many nodes. -/
import Derived.Test.YtljdjkiejppenaaG6
import Derived.Test.YtljdjkiejppenaaPgMayP
namespace Go.Proofs.Ytljdjkiejppenaa
open Go.RowKit
set_option linter.unusedVariables false
namespace Pg
theorem dTxt_nd (s : ByteArray) : (dTxt s).nd = 0 ∧ (dTxt s).dp = 0 := by
  unfold dTxt
  split <;> exact ⟨rfl, rfl⟩
theorem dNums_nd (l : List Int) : (dNums l).nd = 0 ∧ (dNums l).dp = 0 := by
  induction l with
  | nil => exact ⟨rfl, rfl⟩
  | cons n l ih => simp [dNums, Dl.app, dCnt, ih]
theorem dNumL_nd (l : List Int) : (dNumL l).nd = 0 ∧ (dNumL l).dp = 0 := by simp [dNumL, Dl.app, dCnt, dNums_nd]
theorem dExL_nd (l : List Ex) : (dExL l).nd = (dCat Ex.dl l).nd ∧ (dExL l).dp = (dCat Ex.dl l).dp := by simp only [dExL, Dl.app, dCnt, dEs_cat]; exact ⟨by omega, by omega⟩
theorem dStL_nd (l : List St) : (dStL l).nd = (dCat St.dl l).nd ∧ (dStL l).dp = (dCat St.dl l).dp := by simp only [dStL, Dl.app, dCnt, dSs_cat]; exact ⟨by omega, by omega⟩
theorem Ex.nd_eq (x : Ex) : x.dl.nd = (dCat Ex.dl x.args).nd + 1 ∧ x.dl.dp = (dCat Ex.dl x.args).dp + 1 := by
  rw [Ex.dl_eq]
  simp only [Dl.node, Dl.app, dCnt, dNum, dTxt_nd, dExL_nd]
  exact ⟨by omega, by omega⟩
theorem St.nd_eq (x : St) : x.dl.nd = (dCat Ex.dl x.args).nd + (dCat St.dl x.a).nd + (dCat St.dl x.b).nd + 1 ∧ x.dl.dp = max (dCat Ex.dl x.args).dp (max (dCat St.dl x.a).dp (dCat St.dl x.b).dp) + 1 := by
  rw [St.dl_eq]
  simp only [Dl.node, Dl.app, dCnt, dNum, dNumL_nd, dExL_nd, dStL_nd]
  exact ⟨by omega, by omega⟩
theorem Fn.nd_eq (x : Fn) : x.dl.nd = (dCat St.dl x.body).nd ∧ x.dl.dp = (dCat St.dl x.body).dp := by
  simp only [Fn.dl, Dl.app, dCnt, dNumL_nd, dStL_nd]
  exact ⟨by omega, by omega⟩
theorem dTs_nd (l : List Tp) : (dTs l).nd = 0 ∧ (dTs l).dp = 0 := by
  induction l with
  | nil => exact ⟨rfl, rfl⟩
  | cons x l ih => simp [dTs, Dl.app, Tp.dl, dCnt, dNumL_nd, ih]
theorem Pr.nd_eq (p : Pr) : p.dl.nd = (dCat Fn.dl p.funcs).nd ∧ p.dl.dp = (dCat Fn.dl p.funcs).dp := by
  simp only [Pr.dl, Dl.app, dCnt, dTs_nd, dFs_cat]
  exact ⟨by omega, by omega⟩
theorem nd_succ {α : Type} (f : α → Dl) {l : List α} {k : Nat} (h : k < l.length) : (dCat f (l.take (k + 1))).nd = (dCat f (l.take k)).nd + (f l[k]).nd ∧ (dCat f (l.take (k + 1))).dp = max (dCat f (l.take k)).dp (f l[k]).dp := by rw [dCat_succ f h]; exact ⟨rfl, rfl⟩
end Pg
/-- what a count that stops beyond most tells -/
def Nt (most n r : Int) (s : Nat) : Prop := n ≤ r ∧ r ≤ n + s ∧ (r ≤ most → r = n + s)
theorem Nt.trans {most n q1 q2 : Int} {s1 s2 : Nat} (h1 : Nt most n q1 s1) (h2 : Nt most q1 q2 s2) : Nt most n q2 (s1 + s2) := by
  obtain ⟨a1, a2, a3⟩ := h1
  obtain ⟨b1, b2, b3⟩ := h2
  exact ⟨by omega, by omega, fun h => by have := a3 (by omega); have := b3 h; omega⟩
theorem Nt.over {most n r : Int} {s1 s2 : Nat} (h : Nt most n r s1) (hs : s1 ≤ s2) (hr : ¬ r ≤ most) : Nt most n r s2 := by
  obtain ⟨a1, a2, a3⟩ := h
  exact ⟨a1, by omega, fun h => absurd h hr⟩
def NdE (x : Pg.Ex) : Prop := ∀ (B : Nat → Prop) (w : World) (a : Option Addr) (c : Nat) (n most : Int), ExL B w a c x.args → 0 ≤ n → n + x.dl.nd ≤ 100000000000000 →
  Calls Try.prog 73 #[.agg #[.int .i64 x.op, .int .i64 x.t, .int .i64 x.n, .string x.s, .slice a x.args.length c], .int .i64 n, .int .i64 most] w fun e w' => ∃ r, e = .returned (.int .i64 r) ∧ Nt most n r x.dl.nd ∧ w.grownBy w' none
set_option maxRecDepth 100000 in
set_option maxHeartbeats 8000000 in
theorem exprNodes_one (x : Pg.Ex) (ih : ∀ y, y ∈ x.args → NdE y) : NdE x := by
  intro B w a c n most h hn0 hn1
  have hle := h.le
  have hmx := h.max
  unfold maxLen at hmx
  obtain ⟨W1, hW1⟩ : ∃ W1, W1 = w.alloc (.cells #[.int .i64 x.op, .int .i64 x.t, .int .i64 x.n, .string x.s, .slice a x.args.length c] 94) := ⟨_, rfl⟩
  have HW1 : Hid (W1 = w.alloc (.cells #[.int .i64 x.op, .int .i64 x.t, .int .i64 x.n, .string x.s, .slice a x.args.length c] 94)) := hW1
  have g1 : w.grownBy W1 none := by rw [hW1]; exact World.grownBy_alloc _ _ _
  have HG1 : Hid (w.grownBy W1 none) := g1
  have HK : Hid (∀ W, W1.grownBy W none → W.cell? ⟨w.heap.size, 4, none⟩ = some (.slice a x.args.length c)) := fun W g => g.cell (by rw [hW1]; exact cells_new _ _ rfl _) (by simp)
  have HL : Hid (∀ W, W1.grownBy W none → ExL B W a c x.args) := fun W g => ExL.grow h (grown_trans g1 g)
  have HI : Hid (∀ y, y ∈ x.args → NdE y) := ih
  have HX : Hid (x.dl.nd = (Pg.dCat Pg.Ex.dl x.args).nd + 1) := (Pg.Ex.nd_eq x).1
  have hX : n + (Pg.dCat Pg.Ex.dl x.args).nd + 1 ≤ 100000000000000 := by have := HX.out; omega
  clear h ih g1 hW1 hn1
  go_enter Try.func73, Try.ntmps73
  go_wp2_with fail
  go_loopw [1, 7] (fun nx ix wr => ∃ (k : Nat) (r : Int), ix = .int .i64 k ∧ k ≤ x.args.length ∧ nx = .int .i64 r ∧ Nt most (n + 1) r (Pg.dCat Pg.Ex.dl (x.args.take k)).nd ∧ W1.grownBy wr none) (fun _ ix _ => x.args.length - (intOf ix).toNat)
  case atStart => exact ⟨0, n + 1, rfl, Nat.zero_le _, rfl, ⟨Int.le_refl _, by simp [Pg.dCat, Pg.Dl.nil], fun _ => by simp [Pg.dCat, Pg.Dl.nil]⟩, by rw [HW1.out]; exact World.grownBy.refl _ _⟩
  case round =>
    obtain ⟨k, r, rfl, hk, rfl, hnt, hg⟩ := hrel
    have HN : Hid (Nt most (n + 1) r (Pg.dCat Pg.Ex.dl (x.args.take k)).nd) := hnt
    have HG : Hid (W1.grownBy wr none) := hg
    have e4 := HK.out wr hg
    obtain ⟨l1, _, _, _⟩ := Pg.dCat_le Pg.Ex.dl x.args k
    by_cases hkn : k < x.args.length
    case neg =>
      obtain rfl : k = x.args.length := by omega
      clear hnt hg
      go_wp2
      go_ret
      refine ⟨r, rfl, ?_, grown_trans HG1.out HG.out⟩
      obtain ⟨z1, z2, z3⟩ := HN.out
      rw [List.take_length] at z2 z3
      rw [HX.out]
      exact ⟨by omega, by omega, fun h => by have := z3 h; omega⟩
    have hkn' : (k : Int) < x.args.length := by omega
    by_cases hrm : r ≤ most
    case neg =>
      have hrm' : ¬ r ≤ most := hrm
      have d1 : decide (r ≤ most) = false := by simpa using hrm
      obtain ⟨z1, z2, _⟩ := hnt
      clear hg
      go_wp2
      go_ret
      exact ⟨r, rfl, ⟨by omega, by rw [HX.out]; omega, fun h => absurd h (by omega)⟩, grown_trans HG1.out HG.out⟩
    have d1 : decide (r ≤ most) = true := by simpa using hrm
    obtain ⟨b, o, rfl, _, hx⟩ := (HL.out wr hg).at hkn
    obtain ⟨a1, k1, he⟩ := hx.row
    have HS : Hid ((Pg.dCat Pg.Ex.dl (x.args.take (k + 1))).nd = (Pg.dCat Pg.Ex.dl (x.args.take k)).nd + x.args[k].dl.nd) := (Pg.nd_succ _ hkn).1
    obtain ⟨l2, _, _, _⟩ := Pg.dCat_le Pg.Ex.dl x.args (k + 1)
    have hS := HS.out
    have HC := HI.out x.args[k] (List.getElem_mem hkn) B wr a1 k1 r most he.args (by have := hnt.1; omega) (by have := hnt.2.1; omega)
    have c0 := he.c0
    have c1 := he.c1
    have c2 := he.c2
    have c3 := he.c3
    have c4 := he.c4
    clear hx he hg hnt hS l1 l2
    generalize x.args[k] = y at *
    have HC : Hid (Calls Try.prog 73 #[.agg #[.int .i64 y.op, .int .i64 y.t, .int .i64 y.n, .string y.s, .slice a1 y.args.length k1], .int .i64 r, .int .i64 most] wr fun e w' => ∃ q, e = .returned (.int .i64 q) ∧ Nt most r q y.dl.nd ∧ wr.grownBy w' none) := HC
    go_wp2_with (go_at_call 73; refine HC.out.mono ?_; rintro e w4 ⟨q, rfl, hq, hg4⟩; have G4 : Hid (wr.grownBy w4 none) := hg4; have Q4 : Hid (Nt most r q y.dl.nd) := hq; clear hg4 hq)
    go_roundw
    case rel => exact ⟨k + 1, q, by go_num, by omega, rfl, by rw [HS.out]; exact HN.out.trans Q4.out, grown_trans HG.out G4.out⟩
    case measure => simp [intOf]; omega
theorem exprNodes_any (x : Pg.Ex) : NdE x := Pg.Ex.ind (P := NdE) (fun op t n s args ih => exprNodes_one (.mk op t n s args) ih) x
def NdS (l : List Pg.St) : Prop := ∀ (B : Nat → Prop) (w : World) (a : Option Addr) (c : Nat) (n most : Int), StL B w a c l → 0 ≤ n → n + (Pg.dCat Pg.St.dl l).nd ≤ 100000000000000 →
  Calls Try.prog 52 #[.slice a l.length c, .int .i64 n, .int .i64 most] w fun e w' => ∃ r, e = .returned (.int .i64 r) ∧ Nt most n r (Pg.dCat Pg.St.dl l).nd ∧ w.grownBy w' none
set_option maxRecDepth 100000 in
set_option maxHeartbeats 16000000 in
theorem stmtNodes_list (l : List Pg.St) (ih : ∀ x, x ∈ l → NdS x.a ∧ NdS x.b) : NdS l := by
  intro B w a c n most h hn0 hn1
  have hle := h.le
  have hmx := h.max
  unfold maxLen at hmx
  have HL : Hid (StL B w a c l) := h
  have HI : Hid (∀ x, x ∈ l → NdS x.a ∧ NdS x.b) := ih
  clear h ih
  go_enter Try.func52, Try.ntmps52
  go_wp2_with fail
  go_loopw [1, 7] (fun nx ix wr => ∃ (k : Nat) (r : Int), ix = .int .i64 k ∧ k ≤ l.length ∧ nx = .int .i64 r ∧ Nt most n r (Pg.dCat Pg.St.dl (l.take k)).nd ∧ w.grownBy wr none) (fun _ ix _ => l.length - (intOf ix).toNat)
  case atStart => exact ⟨0, n, rfl, Nat.zero_le _, rfl, ⟨Int.le_refl _, by simp [Pg.dCat, Pg.Dl.nil], fun _ => by simp [Pg.dCat, Pg.Dl.nil]⟩, World.grownBy.refl _ _⟩
  case round =>
    obtain ⟨k, r, rfl, hk, rfl, hnt, hg⟩ := hrel
    have HN : Hid (Nt most n r (Pg.dCat Pg.St.dl (l.take k)).nd) := hnt
    have HG : Hid (w.grownBy wr none) := hg
    obtain ⟨l1, _, _, _⟩ := Pg.dCat_le Pg.St.dl l k
    by_cases hkn : k < l.length
    case neg =>
      obtain rfl : k = l.length := by omega
      clear hnt hg
      go_wp2
      go_ret
      refine ⟨r, rfl, ?_, HG.out⟩
      have := HN.out
      rwa [List.take_length] at this
    have hkn' : (k : Int) < l.length := by omega
    by_cases hrm : r ≤ most
    case neg =>
      have hrm' : ¬ r ≤ most := hrm
      have d1 : decide (r ≤ most) = false := by simpa using hrm
      clear hg hnt
      go_wp2
      go_ret
      exact ⟨r, rfl, HN.out.over l1 (by omega), HG.out⟩
    have d1 : decide (r ≤ most) = true := by simpa using hrm
    obtain ⟨b, o, rfl, _, hx⟩ := (StL.grow HL.out hg).at hkn
    obtain ⟨a1, a2, a3, a4, k1, k2, k3, k4, he⟩ := hx.row
    have hsx := (Pg.nd_succ Pg.St.dl hkn).1
    rw [(Pg.St.nd_eq l[k]).1] at hsx
    have HT : Hid (∀ {q : Int}, Nt most (r + 1) q ((Pg.dCat Pg.Ex.dl l[k].args).nd + ((Pg.dCat Pg.St.dl l[k].a).nd + (Pg.dCat Pg.St.dl l[k].b).nd)) → Nt most n q (Pg.dCat Pg.St.dl (l.take (k + 1))).nd) := by
      intro q hq
      obtain ⟨u1, u2, u3⟩ := HN.out
      obtain ⟨v1, v2, v3⟩ := hq
      rw [hsx]
      exact ⟨by omega, by omega, fun h => by have := v3 h; have := u3 hrm; omega⟩
    obtain ⟨l2, _, _, _⟩ := Pg.dCat_le Pg.St.dl l (k + 1)
    have hup : r + 1 + ((Pg.dCat Pg.Ex.dl l[k].args).nd + ((Pg.dCat Pg.St.dl l[k].a).nd + (Pg.dCat Pg.St.dl l[k].b).nd) : Nat) ≤ 100000000000000 := by
      obtain ⟨u1, u2, u3⟩ := HN.out
      omega
    have hr0 : 0 ≤ r := by have := hnt.1; omega
    have hle1 := he.args.le
    have hmx1 := he.args.max
    unfold maxLen at hmx1
    have HS : Hid (∀ W, wr.grownBy W none → StC B W b (o + k * 6) l[k] a1 a2 a3 a4 k1 k2 k3 k4) := fun W g => ⟨g.cell he.c0 (by simp), g.cell he.c1 (by simp), g.cell he.c2 (by simp), g.cell he.c3 (by simp), g.cell he.c4 (by simp), g.cell he.c5 (by simp), he.rg, ExL.grow he.args g, NumL.grow he.dst g, StL.grow he.a g, StL.grow he.b g⟩
    have HI2 : Hid (NdS l[k].a ∧ NdS l[k].b) := HI.out _ (List.getElem_mem hkn)
    clear hx he hg hnt hsx l1 l2 HN
    generalize l[k] = x at *
    obtain ⟨w1, hw1⟩ : ∃ z, z = wr := ⟨_, rfl⟩
    subst hw1
    go_wp2_with fail
    go_loopw [1, 8] (fun nx jx wq => ∃ (j : Nat) (q : Int), jx = .int .i64 j ∧ j ≤ x.args.length ∧ nx = .int .i64 q ∧ Nt most (r + 1) q (Pg.dCat Pg.Ex.dl (x.args.take j)).nd ∧ w1.grownBy wq none) (fun _ jx _ => x.args.length - (intOf jx).toNat)
    case atStart => exact ⟨0, r + 1, rfl, Nat.zero_le _, rfl, ⟨Int.le_refl _, by simp [Pg.dCat, Pg.Dl.nil], fun _ => by simp [Pg.dCat, Pg.Dl.nil]⟩, World.grownBy.refl _ _⟩
    case round =>
      obtain ⟨j, q, rfl, hj, rfl, hnt, hq⟩ := hrel
      have HQ : Hid (w1.grownBy wr none) := hq
      have HN : Hid (Nt most (r + 1) q (Pg.dCat Pg.Ex.dl (x.args.take j)).nd) := hnt
      have hs := HS.out wr hq
      have c2 := hs.c2
      have c4 := hs.c4
      have c5 := hs.c5
      obtain ⟨l1, _, _, _⟩ := Pg.dCat_le Pg.Ex.dl x.args j
      have hq0 : r + 1 ≤ q := hnt.1
      by_cases hgo : j < x.args.length ∧ q ≤ most
      case pos =>
        obtain ⟨hjn, hqm⟩ := hgo
        have hjn' : (j : Int) < x.args.length := by omega
        have d2 : decide (q ≤ most) = true := by simpa using hqm
        obtain ⟨b1, o1, rfl, _, hy⟩ := hs.args.at hjn
        obtain ⟨a5, k5, hf⟩ := hy.row
        have HS2 : Hid ((Pg.dCat Pg.Ex.dl (x.args.take (j + 1))).nd = (Pg.dCat Pg.Ex.dl (x.args.take j)).nd + x.args[j].dl.nd) := (Pg.nd_succ _ hjn).1
        obtain ⟨l2, _, _, _⟩ := Pg.dCat_le Pg.Ex.dl x.args (j + 1)
        have hS := HS2.out
        have HC := exprNodes_any x.args[j] B wr a5 k5 q most hf.args (by omega) (by have := hnt.2.1; omega)
        have m0 := hf.c0
        have m1 := hf.c1
        have m2 := hf.c2
        have m3 := hf.c3
        have m4 := hf.c4
        clear hs hy hf hq hnt hS l1 l2 c4 c5
        generalize x.args[j] = y at *
        have HC : Hid (Calls Try.prog 73 #[.agg #[.int .i64 y.op, .int .i64 y.t, .int .i64 y.n, .string y.s, .slice a5 y.args.length k5], .int .i64 q, .int .i64 most] wr fun e w' => ∃ p, e = .returned (.int .i64 p) ∧ Nt most q p y.dl.nd ∧ wr.grownBy w' none) := HC
        go_wp2_with (go_at_call 73; refine HC.out.mono ?_; rintro e w4 ⟨p, rfl, hp, hg4⟩; have G4 : Hid (wr.grownBy w4 none) := hg4; have Q4 : Hid (Nt most q p y.dl.nd) := hp; clear hg4 hp)
        go_roundw
        case rel => exact ⟨j + 1, p, by go_num, by omega, rfl, by rw [HS2.out]; exact HN.out.trans Q4.out, grown_trans HQ.out G4.out⟩
        case measure => simp [intOf]; omega
      case neg =>
        have HM : Hid (Nt most (r + 1) q (Pg.dCat Pg.Ex.dl x.args).nd) := by
          by_cases hjn : j < x.args.length
          · exact HN.out.over l1 (fun h => hgo ⟨hjn, h⟩)
          · obtain rfl : j = x.args.length := by omega
            have := HN.out
            rwa [List.take_length] at this
        have hup2 : q + ((Pg.dCat Pg.St.dl x.a).nd + (Pg.dCat Pg.St.dl x.b).nd : Nat) ≤ 100000000000000 := by have := HM.out.2.1; omega
        have HC2 : Hid (∀ W, wr.grownBy W none → Calls Try.prog 52 #[.slice a3 x.a.length k3, .int .i64 q, .int .i64 most] W fun e w' => ∃ p, e = .returned (.int .i64 p) ∧ Nt most q p (Pg.dCat Pg.St.dl x.a).nd ∧ W.grownBy w' none) := fun W g => HI2.out.1 B W a3 k3 q most (StL.grow hs.a g) (by omega) (by omega)
        have HC3 : Hid (∀ W, wr.grownBy W none → ∀ z : Int, 0 ≤ z → z + (Pg.dCat Pg.St.dl x.b).nd ≤ 100000000000000 → Calls Try.prog 52 #[.slice a4 x.b.length k4, .int .i64 z, .int .i64 most] W fun e w' => ∃ p, e = .returned (.int .i64 p) ∧ Nt most z p (Pg.dCat Pg.St.dl x.b).nd ∧ W.grownBy w' none) := fun W g z h0 h1 => HI2.out.2 B W a4 k4 z most (StL.grow hs.b g) h0 h1
        clear hs hq hnt l1 HN
        have hdd : ¬ ((j : Int) < x.args.length) ∨ ¬ (q ≤ most) := by
          by_cases hjn : j < x.args.length
          · exact .inr (fun h => hgo ⟨hjn, h⟩)
          · exact .inl (by omega)
        clear hgo
        have hcond : ((decide ((j : Int) < x.args.length)) = false) ∨ (decide ((j : Int) < x.args.length) = true ∧ decide (q ≤ most) = false) := by
          by_cases hjn : (j : Int) < x.args.length
          · exact .inr ⟨decide_eq_true hjn, decide_eq_false (by rcases hdd with h | h; exact absurd hjn h; exact h)⟩
          · exact .inl (decide_eq_false hjn)
        rcases hcond with d2 | ⟨d2, d3⟩
        · have d4 : ¬ ((j : Int) < x.args.length) := by simpa using d2
          clear hdd
          go_wp2_with fail
          refine region_src 15 (psiL [eqV (.slice (some ⟨b, o, none⟩) l.length c), eqV (.int .i64 (k : Int)), eqV (.pointer (some ⟨b, o + k * 6, none⟩)), eqV (.pointer (some ⟨b, o + k * 6 + 5, none⟩)), eqV (.slice a4 x.b.length k4), eqV (.slice (some ⟨b, o, none⟩) l.length c), eqV (.int .i64 (k : Int)), eqV (.pointer (some ⟨b, o + k * 6, none⟩)), eqV (.pointer (some ⟨b, o + k * 6 + 4, none⟩)), eqV (.slice a3 x.a.length k3), eqV (.int .i64 q), eqV (.int .i64 most), intV (fun p => Nt most q p (Pg.dCat Pg.St.dl x.a).nd), eqV (.int .i64 most), intV (fun p => Nt most q p ((Pg.dCat Pg.St.dl x.a).nd + (Pg.dCat Pg.St.dl x.b).nd))]) (by kernel_rfl) (by kernel_rfl) (by kernel_rfl) (by kernel_rfl) (psiL_hst (by repeat (first | exact stab_nil | refine stab_cons ?_ ?_ | exact stab_eq _ | exact stab_int _ | exact stab_int _))) ?_ ?_
          · simp only [List.take_succ_cons, List.take_zero]
            refine ⟨?_, ?_, ?_, ?_, ?_, ?_, ?_, ?_, ?_, ?_, ?_, ?_, ?_, ?_, ?_, trivial⟩
            · intro VV W0 AA g hV hs hz
              have e00 := hz 0 (.slice (some ⟨b, o, none⟩) l.length c) (by kernel_rfl) rfl
              clear hV hs hz
              refine outO_val (v := .slice (some ⟨b, o, none⟩) l.length c) (w' := W0) ?_ (World.grownBy.refl _ _) rfl
              simp [go_sem, e00]
            · intro VV W0 AA g hV hs hz
              have e07 := hz 7 (.int .i64 (k : Int)) (by kernel_rfl) rfl
              clear hV hs hz
              refine outO_val (v := .int .i64 (k : Int)) (w' := W0) ?_ (World.grownBy.refl _ _) rfl
              simp [go_sem, e07]
            · intro VV W0 AA g hV hs hz
              have q0 : VV 0 = .slice (some ⟨b, o, none⟩) l.length c := hV 0 (by kernel_rfl)
              have e0 := hs 48 0 (by kernel_rfl) (by kernel_rfl)
              have q1 : VV 1 = .int .i64 (k : Int) := hV 1 (by kernel_rfl)
              have e1 := hs 49 1 (by kernel_rfl) (by kernel_rfl)
              clear hV hs hz
              refine outO_val (v := .pointer (some ⟨b, o + k * 6, none⟩)) (w' := W0) ?_ (World.grownBy.refl _ _) rfl
              simp [go_sem, q0, e0, q1, e1, hkn']
            · intro VV W0 AA g hV hs hz
              have q2 : VV 2 = .pointer (some ⟨b, o + k * 6, none⟩) := hV 2 (by kernel_rfl)
              have e2 := hs 50 2 (by kernel_rfl) (by kernel_rfl)
              clear hV hs hz
              refine outO_val (v := .pointer (some ⟨b, o + k * 6 + 5, none⟩)) (w' := W0) ?_ (World.grownBy.refl _ _) rfl
              simp [go_sem, q2, e2]
            · intro VV W0 AA g hV hs hz
              have gD : wr.grownBy W0 none := grown_trans (grown_drew (World.grownBy.refl _ none)) g
              have q3 : VV 3 = .pointer (some ⟨b, o + k * 6 + 5, none⟩) := hV 3 (by kernel_rfl)
              have e3 := hs 51 3 (by kernel_rfl) (by kernel_rfl)
              have x0 := gD.cell c5 (by simp)
              clear hV hs hz
              refine outO_val (v := .slice a4 x.b.length k4) (w' := W0) ?_ (World.grownBy.refl _ _) rfl
              simp [go_sem, q3, e3, x0]
            · intro VV W0 AA g hV hs hz
              have e00 := hz 0 (.slice (some ⟨b, o, none⟩) l.length c) (by kernel_rfl) rfl
              clear hV hs hz
              refine outO_val (v := .slice (some ⟨b, o, none⟩) l.length c) (w' := W0) ?_ (World.grownBy.refl _ _) rfl
              simp [go_sem, e00]
            · intro VV W0 AA g hV hs hz
              have e07 := hz 7 (.int .i64 (k : Int)) (by kernel_rfl) rfl
              clear hV hs hz
              refine outO_val (v := .int .i64 (k : Int)) (w' := W0) ?_ (World.grownBy.refl _ _) rfl
              simp [go_sem, e07]
            · intro VV W0 AA g hV hs hz
              have q5 : VV 5 = .slice (some ⟨b, o, none⟩) l.length c := hV 5 (by kernel_rfl)
              have e5 := hs 53 5 (by kernel_rfl) (by kernel_rfl)
              have q6 : VV 6 = .int .i64 (k : Int) := hV 6 (by kernel_rfl)
              have e6 := hs 54 6 (by kernel_rfl) (by kernel_rfl)
              clear hV hs hz
              refine outO_val (v := .pointer (some ⟨b, o + k * 6, none⟩)) (w' := W0) ?_ (World.grownBy.refl _ _) rfl
              simp [go_sem, q5, e5, q6, e6, hkn']
            · intro VV W0 AA g hV hs hz
              have q7 : VV 7 = .pointer (some ⟨b, o + k * 6, none⟩) := hV 7 (by kernel_rfl)
              have e7 := hs 55 7 (by kernel_rfl) (by kernel_rfl)
              clear hV hs hz
              refine outO_val (v := .pointer (some ⟨b, o + k * 6 + 4, none⟩)) (w' := W0) ?_ (World.grownBy.refl _ _) rfl
              simp [go_sem, q7, e7]
            · intro VV W0 AA g hV hs hz
              have gD : wr.grownBy W0 none := grown_trans (grown_drew (World.grownBy.refl _ none)) g
              have q8 : VV 8 = .pointer (some ⟨b, o + k * 6 + 4, none⟩) := hV 8 (by kernel_rfl)
              have e8 := hs 56 8 (by kernel_rfl) (by kernel_rfl)
              have x0 := gD.cell c4 (by simp)
              clear hV hs hz
              refine outO_val (v := .slice a3 x.a.length k3) (w' := W0) ?_ (World.grownBy.refl _ _) rfl
              simp [go_sem, q8, e8, x0]
            · intro VV W0 AA g hV hs hz
              have e01 := hz 1 (.int .i64 q) (by kernel_rfl) rfl
              clear hV hs hz
              refine outO_val (v := .int .i64 q) (w' := W0) ?_ (World.grownBy.refl _ _) rfl
              simp [go_sem, e01]
            · intro VV W0 AA g hV hs hz
              have e02 := hz 2 (.int .i64 most) (by kernel_rfl) rfl
              clear hV hs hz
              refine outO_val (v := .int .i64 most) (w' := W0) ?_ (World.grownBy.refl _ _) rfl
              simp [go_sem, e02]
            · intro VV W0 AA g hV hs hz
              have gD : wr.grownBy W0 none := grown_trans (grown_drew (World.grownBy.refl _ none)) g
              have q9 : VV 9 = .slice a3 x.a.length k3 := hV 9 (by kernel_rfl)
              have e9 := hs 57 9 (by kernel_rfl) (by kernel_rfl)
              have q10 : VV 10 = .int .i64 q := hV 10 (by kernel_rfl)
              have e10 := hs 58 10 (by kernel_rfl) (by kernel_rfl)
              have q11 : VV 11 = .int .i64 most := hV 11 (by kernel_rfl)
              have e11 := hs 59 11 (by kernel_rfl) (by kernel_rfl)
              clear hV hs hz
              refine outO_call (f := 52) ?_ ((HC2.out W0 gD).mono fun e w2 ⟨p, he, hp, hg⟩ => ⟨_, he, hg, p, rfl, hp⟩)
              simp [go_sem, q9, e9, q10, e10, q11, e11]
            · intro VV W0 AA g hV hs hz
              have e02 := hz 2 (.int .i64 most) (by kernel_rfl) rfl
              clear hV hs hz
              refine outO_val (v := .int .i64 most) (w' := W0) ?_ (World.grownBy.refl _ _) rfl
              simp [go_sem, e02]
            · intro VV W0 AA g hV hs hz
              have gD : wr.grownBy W0 none := grown_trans (grown_drew (World.grownBy.refl _ none)) g
              have q4 : VV 4 = .slice a4 x.b.length k4 := hV 4 (by kernel_rfl)
              have e4 := hs 52 4 (by kernel_rfl) (by kernel_rfl)
              obtain ⟨z12, q12, p12⟩ := (show intV (fun p => Nt most q p (Pg.dCat Pg.St.dl x.a).nd) (VV 12) W0 from hV 12 (by kernel_rfl))
              have e12 := hs 60 12 (by kernel_rfl) (by kernel_rfl)
              have q13 : VV 13 = .int .i64 most := hV 13 (by kernel_rfl)
              have e13 := hs 61 13 (by kernel_rfl) (by kernel_rfl)
              clear hV hs hz
              refine outO_call (f := 52) ?_ ((HC3.out W0 gD z12 (by have := p12.1; omega) (by have := p12.2.1; omega)).mono fun e w2 ⟨p, he, hp, hg⟩ => ⟨_, he, hg, p, rfl, p12.trans hp⟩)
              simp [go_sem, q4, e4, q12, e12, q13, e13]
          · intro VV W0 g hV
            have gD : wr.grownBy W0 none := grown_trans (grown_drew (World.grownBy.refl _ none)) g
            have h0 : VV 0 = .slice (some ⟨b, o, none⟩) l.length c := hV 0 (by decide)
            have h1 : VV 1 = .int .i64 (k : Int) := hV 1 (by decide)
            have h2 : VV 2 = .pointer (some ⟨b, o + k * 6, none⟩) := hV 2 (by decide)
            have h3 : VV 3 = .pointer (some ⟨b, o + k * 6 + 5, none⟩) := hV 3 (by decide)
            have h4 : VV 4 = .slice a4 x.b.length k4 := hV 4 (by decide)
            have h5 : VV 5 = .slice (some ⟨b, o, none⟩) l.length c := hV 5 (by decide)
            have h6 : VV 6 = .int .i64 (k : Int) := hV 6 (by decide)
            have h7 : VV 7 = .pointer (some ⟨b, o + k * 6, none⟩) := hV 7 (by decide)
            have h8 : VV 8 = .pointer (some ⟨b, o + k * 6 + 4, none⟩) := hV 8 (by decide)
            have h9 : VV 9 = .slice a3 x.a.length k3 := hV 9 (by decide)
            have h10 : VV 10 = .int .i64 q := hV 10 (by decide)
            have h11 : VV 11 = .int .i64 most := hV 11 (by decide)
            obtain ⟨z12, h12, p12⟩ := (show intV (fun p => Nt most q p (Pg.dCat Pg.St.dl x.a).nd) (VV 12) W0 from hV 12 (by decide))
            have h13 : VV 13 = .int .i64 most := hV 13 (by decide)
            obtain ⟨z14, h14, p14⟩ := (show intV (fun p => Nt most q p ((Pg.dCat Pg.St.dl x.a).nd + (Pg.dCat Pg.St.dl x.b).nd)) (VV 14) W0 from hV 14 (by decide))
            simp [frV, dstOf, Act.put, h0, h1, h2, h3, h4, h5, h6, h7, h8, h9, h10, h11, h12, h13, h14]
            clear h0 h1 h2 h3 h4 h5 h6 h7 h8 h9 h10 h11 h12 h13 h14 hV g
            have GR : Hid (wr.grownBy W0 none) := gD
            clear gD
            have HQ9 : Hid (Nt most q z14 ((Pg.dCat Pg.St.dl x.a).nd + (Pg.dCat Pg.St.dl x.b).nd)) := p14
            clear p12 p14
            go_wp2_with fail
            go_roundw
            case rel => exact ⟨k + 1, z14, by go_num, by omega, rfl, HT.out (HM.out.trans HQ9.out), grown_trans HG.out (grown_trans HQ.out GR.out)⟩
            case measure => simp [intOf]; omega
        · have d4 : (j : Int) < x.args.length := by simpa using d2
          have d5 : ¬ (q ≤ most) := by simpa using d3
          clear hdd
          go_wp2_with fail
          refine region_src 15 (psiL [eqV (.slice (some ⟨b, o, none⟩) l.length c), eqV (.int .i64 (k : Int)), eqV (.pointer (some ⟨b, o + k * 6, none⟩)), eqV (.pointer (some ⟨b, o + k * 6 + 5, none⟩)), eqV (.slice a4 x.b.length k4), eqV (.slice (some ⟨b, o, none⟩) l.length c), eqV (.int .i64 (k : Int)), eqV (.pointer (some ⟨b, o + k * 6, none⟩)), eqV (.pointer (some ⟨b, o + k * 6 + 4, none⟩)), eqV (.slice a3 x.a.length k3), eqV (.int .i64 q), eqV (.int .i64 most), intV (fun p => Nt most q p (Pg.dCat Pg.St.dl x.a).nd), eqV (.int .i64 most), intV (fun p => Nt most q p ((Pg.dCat Pg.St.dl x.a).nd + (Pg.dCat Pg.St.dl x.b).nd))]) (by kernel_rfl) (by kernel_rfl) (by kernel_rfl) (by kernel_rfl) (psiL_hst (by repeat (first | exact stab_nil | refine stab_cons ?_ ?_ | exact stab_eq _ | exact stab_int _ | exact stab_int _))) ?_ ?_
          · simp only [List.take_succ_cons, List.take_zero]
            refine ⟨?_, ?_, ?_, ?_, ?_, ?_, ?_, ?_, ?_, ?_, ?_, ?_, ?_, ?_, ?_, trivial⟩
            · intro VV W0 AA g hV hs hz
              have e00 := hz 0 (.slice (some ⟨b, o, none⟩) l.length c) (by kernel_rfl) rfl
              clear hV hs hz
              refine outO_val (v := .slice (some ⟨b, o, none⟩) l.length c) (w' := W0) ?_ (World.grownBy.refl _ _) rfl
              simp [go_sem, e00]
            · intro VV W0 AA g hV hs hz
              have e07 := hz 7 (.int .i64 (k : Int)) (by kernel_rfl) rfl
              clear hV hs hz
              refine outO_val (v := .int .i64 (k : Int)) (w' := W0) ?_ (World.grownBy.refl _ _) rfl
              simp [go_sem, e07]
            · intro VV W0 AA g hV hs hz
              have q0 : VV 0 = .slice (some ⟨b, o, none⟩) l.length c := hV 0 (by kernel_rfl)
              have e0 := hs 48 0 (by kernel_rfl) (by kernel_rfl)
              have q1 : VV 1 = .int .i64 (k : Int) := hV 1 (by kernel_rfl)
              have e1 := hs 49 1 (by kernel_rfl) (by kernel_rfl)
              clear hV hs hz
              refine outO_val (v := .pointer (some ⟨b, o + k * 6, none⟩)) (w' := W0) ?_ (World.grownBy.refl _ _) rfl
              simp [go_sem, q0, e0, q1, e1, hkn']
            · intro VV W0 AA g hV hs hz
              have q2 : VV 2 = .pointer (some ⟨b, o + k * 6, none⟩) := hV 2 (by kernel_rfl)
              have e2 := hs 50 2 (by kernel_rfl) (by kernel_rfl)
              clear hV hs hz
              refine outO_val (v := .pointer (some ⟨b, o + k * 6 + 5, none⟩)) (w' := W0) ?_ (World.grownBy.refl _ _) rfl
              simp [go_sem, q2, e2]
            · intro VV W0 AA g hV hs hz
              have gD : wr.grownBy W0 none := grown_trans (grown_drew (World.grownBy.refl _ none)) g
              have q3 : VV 3 = .pointer (some ⟨b, o + k * 6 + 5, none⟩) := hV 3 (by kernel_rfl)
              have e3 := hs 51 3 (by kernel_rfl) (by kernel_rfl)
              have x0 := gD.cell c5 (by simp)
              clear hV hs hz
              refine outO_val (v := .slice a4 x.b.length k4) (w' := W0) ?_ (World.grownBy.refl _ _) rfl
              simp [go_sem, q3, e3, x0]
            · intro VV W0 AA g hV hs hz
              have e00 := hz 0 (.slice (some ⟨b, o, none⟩) l.length c) (by kernel_rfl) rfl
              clear hV hs hz
              refine outO_val (v := .slice (some ⟨b, o, none⟩) l.length c) (w' := W0) ?_ (World.grownBy.refl _ _) rfl
              simp [go_sem, e00]
            · intro VV W0 AA g hV hs hz
              have e07 := hz 7 (.int .i64 (k : Int)) (by kernel_rfl) rfl
              clear hV hs hz
              refine outO_val (v := .int .i64 (k : Int)) (w' := W0) ?_ (World.grownBy.refl _ _) rfl
              simp [go_sem, e07]
            · intro VV W0 AA g hV hs hz
              have q5 : VV 5 = .slice (some ⟨b, o, none⟩) l.length c := hV 5 (by kernel_rfl)
              have e5 := hs 53 5 (by kernel_rfl) (by kernel_rfl)
              have q6 : VV 6 = .int .i64 (k : Int) := hV 6 (by kernel_rfl)
              have e6 := hs 54 6 (by kernel_rfl) (by kernel_rfl)
              clear hV hs hz
              refine outO_val (v := .pointer (some ⟨b, o + k * 6, none⟩)) (w' := W0) ?_ (World.grownBy.refl _ _) rfl
              simp [go_sem, q5, e5, q6, e6, hkn']
            · intro VV W0 AA g hV hs hz
              have q7 : VV 7 = .pointer (some ⟨b, o + k * 6, none⟩) := hV 7 (by kernel_rfl)
              have e7 := hs 55 7 (by kernel_rfl) (by kernel_rfl)
              clear hV hs hz
              refine outO_val (v := .pointer (some ⟨b, o + k * 6 + 4, none⟩)) (w' := W0) ?_ (World.grownBy.refl _ _) rfl
              simp [go_sem, q7, e7]
            · intro VV W0 AA g hV hs hz
              have gD : wr.grownBy W0 none := grown_trans (grown_drew (World.grownBy.refl _ none)) g
              have q8 : VV 8 = .pointer (some ⟨b, o + k * 6 + 4, none⟩) := hV 8 (by kernel_rfl)
              have e8 := hs 56 8 (by kernel_rfl) (by kernel_rfl)
              have x0 := gD.cell c4 (by simp)
              clear hV hs hz
              refine outO_val (v := .slice a3 x.a.length k3) (w' := W0) ?_ (World.grownBy.refl _ _) rfl
              simp [go_sem, q8, e8, x0]
            · intro VV W0 AA g hV hs hz
              have e01 := hz 1 (.int .i64 q) (by kernel_rfl) rfl
              clear hV hs hz
              refine outO_val (v := .int .i64 q) (w' := W0) ?_ (World.grownBy.refl _ _) rfl
              simp [go_sem, e01]
            · intro VV W0 AA g hV hs hz
              have e02 := hz 2 (.int .i64 most) (by kernel_rfl) rfl
              clear hV hs hz
              refine outO_val (v := .int .i64 most) (w' := W0) ?_ (World.grownBy.refl _ _) rfl
              simp [go_sem, e02]
            · intro VV W0 AA g hV hs hz
              have gD : wr.grownBy W0 none := grown_trans (grown_drew (World.grownBy.refl _ none)) g
              have q9 : VV 9 = .slice a3 x.a.length k3 := hV 9 (by kernel_rfl)
              have e9 := hs 57 9 (by kernel_rfl) (by kernel_rfl)
              have q10 : VV 10 = .int .i64 q := hV 10 (by kernel_rfl)
              have e10 := hs 58 10 (by kernel_rfl) (by kernel_rfl)
              have q11 : VV 11 = .int .i64 most := hV 11 (by kernel_rfl)
              have e11 := hs 59 11 (by kernel_rfl) (by kernel_rfl)
              clear hV hs hz
              refine outO_call (f := 52) ?_ ((HC2.out W0 gD).mono fun e w2 ⟨p, he, hp, hg⟩ => ⟨_, he, hg, p, rfl, hp⟩)
              simp [go_sem, q9, e9, q10, e10, q11, e11]
            · intro VV W0 AA g hV hs hz
              have e02 := hz 2 (.int .i64 most) (by kernel_rfl) rfl
              clear hV hs hz
              refine outO_val (v := .int .i64 most) (w' := W0) ?_ (World.grownBy.refl _ _) rfl
              simp [go_sem, e02]
            · intro VV W0 AA g hV hs hz
              have gD : wr.grownBy W0 none := grown_trans (grown_drew (World.grownBy.refl _ none)) g
              have q4 : VV 4 = .slice a4 x.b.length k4 := hV 4 (by kernel_rfl)
              have e4 := hs 52 4 (by kernel_rfl) (by kernel_rfl)
              obtain ⟨z12, q12, p12⟩ := (show intV (fun p => Nt most q p (Pg.dCat Pg.St.dl x.a).nd) (VV 12) W0 from hV 12 (by kernel_rfl))
              have e12 := hs 60 12 (by kernel_rfl) (by kernel_rfl)
              have q13 : VV 13 = .int .i64 most := hV 13 (by kernel_rfl)
              have e13 := hs 61 13 (by kernel_rfl) (by kernel_rfl)
              clear hV hs hz
              refine outO_call (f := 52) ?_ ((HC3.out W0 gD z12 (by have := p12.1; omega) (by have := p12.2.1; omega)).mono fun e w2 ⟨p, he, hp, hg⟩ => ⟨_, he, hg, p, rfl, p12.trans hp⟩)
              simp [go_sem, q4, e4, q12, e12, q13, e13]
          · intro VV W0 g hV
            have gD : wr.grownBy W0 none := grown_trans (grown_drew (World.grownBy.refl _ none)) g
            have h0 : VV 0 = .slice (some ⟨b, o, none⟩) l.length c := hV 0 (by decide)
            have h1 : VV 1 = .int .i64 (k : Int) := hV 1 (by decide)
            have h2 : VV 2 = .pointer (some ⟨b, o + k * 6, none⟩) := hV 2 (by decide)
            have h3 : VV 3 = .pointer (some ⟨b, o + k * 6 + 5, none⟩) := hV 3 (by decide)
            have h4 : VV 4 = .slice a4 x.b.length k4 := hV 4 (by decide)
            have h5 : VV 5 = .slice (some ⟨b, o, none⟩) l.length c := hV 5 (by decide)
            have h6 : VV 6 = .int .i64 (k : Int) := hV 6 (by decide)
            have h7 : VV 7 = .pointer (some ⟨b, o + k * 6, none⟩) := hV 7 (by decide)
            have h8 : VV 8 = .pointer (some ⟨b, o + k * 6 + 4, none⟩) := hV 8 (by decide)
            have h9 : VV 9 = .slice a3 x.a.length k3 := hV 9 (by decide)
            have h10 : VV 10 = .int .i64 q := hV 10 (by decide)
            have h11 : VV 11 = .int .i64 most := hV 11 (by decide)
            obtain ⟨z12, h12, p12⟩ := (show intV (fun p => Nt most q p (Pg.dCat Pg.St.dl x.a).nd) (VV 12) W0 from hV 12 (by decide))
            have h13 : VV 13 = .int .i64 most := hV 13 (by decide)
            obtain ⟨z14, h14, p14⟩ := (show intV (fun p => Nt most q p ((Pg.dCat Pg.St.dl x.a).nd + (Pg.dCat Pg.St.dl x.b).nd)) (VV 14) W0 from hV 14 (by decide))
            simp [frV, dstOf, Act.put, h0, h1, h2, h3, h4, h5, h6, h7, h8, h9, h10, h11, h12, h13, h14]
            clear h0 h1 h2 h3 h4 h5 h6 h7 h8 h9 h10 h11 h12 h13 h14 hV g
            have GR : Hid (wr.grownBy W0 none) := gD
            clear gD
            have HQ9 : Hid (Nt most q z14 ((Pg.dCat Pg.St.dl x.a).nd + (Pg.dCat Pg.St.dl x.b).nd)) := p14
            clear p12 p14
            go_wp2_with fail
            go_roundw
            case rel => exact ⟨k + 1, z14, by go_num, by omega, rfl, HT.out (HM.out.trans HQ9.out), grown_trans HG.out (grown_trans HQ.out GR.out)⟩
            case measure => simp [intOf]; omega
theorem stmtNodes_any (l : List Pg.St) : NdS l := stmtNodes_list l fun x _ => Pg.St.ind (P := fun x => NdS x.a ∧ NdS x.b) (fun _ _ _ _ a b ia ib => ⟨stmtNodes_list a ia, stmtNodes_list b ib⟩) x
set_option maxRecDepth 100000 in
set_option maxHeartbeats 8000000 in
theorem nodes8 {B : Nat → Prop} {w : World} {p : Pg.Pr} {a1 a2 : Option Addr} {k1 k2 : Nat} (h : PrC B w p a1 a2 k1 k2) {most : Int} (hn1 : (p.dl.nd : Int) ≤ 100000000000000) :
    Calls Try.prog 26 #[.agg #[.slice a1 p.types.length k1, .slice a2 p.funcs.length k2], .int .i64 most] w fun e w' => ∃ r, e = .returned (.int .i64 r) ∧ Nt most 0 r p.dl.nd ∧ w.grownBy w' none := by
  have hle2 := h.f.le
  have hmx2 := h.f.max
  unfold maxLen at hmx2
  obtain ⟨W1, hW1⟩ : ∃ W1, W1 = w.alloc (.cells #[.slice a1 p.types.length k1, .slice a2 p.funcs.length k2] 27) := ⟨_, rfl⟩
  have HW1 : Hid (W1 = w.alloc (.cells #[.slice a1 p.types.length k1, .slice a2 p.funcs.length k2] 27)) := hW1
  have g1 : w.grownBy W1 none := by rw [hW1]; exact World.grownBy_alloc _ _ _
  have HG1 : Hid (w.grownBy W1 none) := g1
  have HK : Hid (∀ W, W1.grownBy W none → W.cell? ⟨w.heap.size, 1, none⟩ = some (.slice a2 p.funcs.length k2)) := fun W g => g.cell (by rw [hW1]; exact cells_new _ _ rfl _) (by simp)
  have HL : Hid (∀ W, W1.grownBy W none → FnL B W a2 k2 p.funcs) := fun W g => FnL.grow h.f (grown_trans g1 g)
  have HX : Hid (p.dl.nd = (Pg.dCat Pg.Fn.dl p.funcs).nd) := (Pg.Pr.nd_eq p).1
  have hX : ((Pg.dCat Pg.Fn.dl p.funcs).nd : Int) ≤ 100000000000000 := by have := HX.out; omega
  rw [HX.out]
  clear h g1 hW1 hn1
  go_enter Try.func26, Try.ntmps26
  go_wp2_with fail
  go_loopw [5, 6] (fun nx ix wr => ∃ (k : Nat) (r : Int), ix = .int .i64 k ∧ k ≤ p.funcs.length ∧ nx = .int .i64 r ∧ Nt most 0 r (Pg.dCat Pg.Fn.dl (p.funcs.take k)).nd ∧ W1.grownBy wr none) (fun _ ix _ => p.funcs.length - (intOf ix).toNat)
  case atStart => exact ⟨0, 0, rfl, Nat.zero_le _, rfl, ⟨Int.le_refl _, by simp [Pg.dCat, Pg.Dl.nil], fun _ => by simp [Pg.dCat, Pg.Dl.nil]⟩, by rw [HW1.out]; exact World.grownBy.refl _ _⟩
  case round =>
    obtain ⟨k, r, rfl, hk, rfl, hnt, hg⟩ := hrel
    have HN : Hid (Nt most 0 r (Pg.dCat Pg.Fn.dl (p.funcs.take k)).nd) := hnt
    have HG : Hid (W1.grownBy wr none) := hg
    have e4 := HK.out wr hg
    obtain ⟨l1, _, _, _⟩ := Pg.dCat_le Pg.Fn.dl p.funcs k
    by_cases hkn : k < p.funcs.length
    case neg =>
      obtain rfl : k = p.funcs.length := by omega
      clear hnt hg
      go_wp2
      go_ret
      refine ⟨r, rfl, ?_, grown_trans HG1.out HG.out⟩
      have := HN.out
      rwa [List.take_length] at this
    have hkn' : (k : Int) < p.funcs.length := by omega
    by_cases hrm : r ≤ most
    case neg =>
      have hrm' : ¬ r ≤ most := hrm
      have d1 : decide (r ≤ most) = false := by simpa using hrm
      clear hg hnt
      go_wp2
      go_ret
      exact ⟨r, rfl, HN.out.over l1 (by omega), grown_trans HG1.out HG.out⟩
    have d1 : decide (r ≤ most) = true := by simpa using hrm
    obtain ⟨b, o, rfl, _, hx⟩ := (HL.out wr hg).at hkn
    obtain ⟨z1, z2, z3, y1, y2, y3, he⟩ := hx
    have HS : Hid ((Pg.dCat Pg.Fn.dl (p.funcs.take (k + 1))).nd = (Pg.dCat Pg.Fn.dl (p.funcs.take k)).nd + (Pg.dCat Pg.St.dl p.funcs[k].body).nd) := by rw [← (Pg.Fn.nd_eq _).1]; exact (Pg.nd_succ _ hkn).1
    obtain ⟨l2, _, _, _⟩ := Pg.dCat_le Pg.Fn.dl p.funcs (k + 1)
    have hS := HS.out
    have HC := stmtNodes_any p.funcs[k].body B wr z3 y3 r most he.b (by have := hnt.1; omega) (by have := hnt.2.1; omega)
    have c3 := he.c3
    clear he hg hnt hS l1 l2
    generalize p.funcs[k] = y at *
    have HC : Hid (Calls Try.prog 52 #[.slice z3 y.body.length y3, .int .i64 r, .int .i64 most] wr fun e w' => ∃ q, e = .returned (.int .i64 q) ∧ Nt most r q (Pg.dCat Pg.St.dl y.body).nd ∧ wr.grownBy w' none) := HC
    go_wp2_with (go_at_call 52; refine HC.out.mono ?_; rintro e w4 ⟨q, rfl, hq, hg4⟩; have G4 : Hid (wr.grownBy w4 none) := hg4; have Q4 : Hid (Nt most r q (Pg.dCat Pg.St.dl y.body).nd) := hq; clear hg4 hq)
    go_roundw
    case rel => exact ⟨k + 1, q, by go_num, by omega, rfl, by rw [HS.out]; exact HN.out.trans Q4.out, grown_trans HG.out G4.out⟩
    case measure => simp [intOf]; omega
end Go.Proofs.Ytljdjkiejppenaa
