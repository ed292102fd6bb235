/- Contracts and plain facts that the walks share. -/
import Derived.Test.YtcfpnojbhojagaaGreatCkDat
import Derived.Test.YtcfpnojbhojagaaGreatG23
import Derived.Test.YtcfpnojbhojagaaGreatPgCpO
import Derived.Test.YtcfpnojbhojagaaGreatG4
import Derived.Laws.BitsAllLaws
import Derived.Defers
import Derived.Recover
import Derived.BigRegion
import Derived.Deep.RegionWith
namespace Go.Proofs.YtcfpnojbhojagaaGreat
open Go.RowKit
set_option linter.unusedVariables false
set_option maxRecDepth 100000
set_option maxHeartbeats 4000000
theorem num9 (e : Int) (w : World) : Calls Tryz.prog 10 #[.int .i64 e] w fun r w' => r = .returned (.int .i64 e) ∧ w' = w := by
  go_enter Tryz.func10, Tryz.ntmps10
  go_wp2
  go_ret
  exact ⟨rfl, rfl⟩
theorem Bk.new2 {w : World} {B : Nat} {t : TypeId} {l : List Value} (h : B = w.heap.size) : Bk (w.alloc (.cells l.toArray t)) B t l := by rw [h]; exact Bk.new _ _ _
theorem Bk.al {w : World} {B : Nat} {t : TypeId} {l : List Value} {o : Obj} (h : Bk w B t l) : Bk (w.alloc o) B t l := h.grow (World.grownBy_alloc _ _ _)
structure Sml (lo : Nat) (w : World) (n : Int) (T R X S F : Nat) : Prop where
  t : Bk w T 61 [.int .i64 5, .int .i64 0, .int .i64 0, .slice none 0 0]
  r : Bk w R 3 [.int .i64 0]
  x : Bk w X 45 [.int .i64 1, .int .i64 0, .int .i64 n, .string ⟨#[]⟩, .slice none 0 0]
  s : Bk w S 51 [.int .i64 7, .int .i64 0, .slice (some ⟨X, 0, none⟩) 1 1, .slice none 0 0, .slice none 0 0, .slice none 0 0]
  f : Bk w F 53 [.int .i64 0, .slice none 0 0, .slice (some ⟨R, 0, none⟩) 1 1, .slice (some ⟨S, 0, none⟩) 1 1]
  lo : lo ≤ T ∧ lo ≤ R ∧ lo ≤ X ∧ lo ≤ S ∧ lo ≤ F
theorem Sml.grow {lo : Nat} {w w' : World} {n : Int} {T R X S F : Nat} (h : Sml lo w n T R X S F) (g : w.grownBy w' none) : Sml lo w' n T R X S F := ⟨h.t.grow g, h.r.grow g, h.x.grow g, h.s.grow g, h.f.grow g, h.lo⟩
theorem small9 (n : Int) (w : World) : Calls Tryz.prog 38 #[.int .i64 n] w fun r w' => ∃ T R X S F, r = .returned (.agg #[.slice (some ⟨T, 0, none⟩) 1 1, .slice (some ⟨F, 0, none⟩) 1 1]) ∧ Sml w.heap.size w' n T R X S F ∧ w.grownBy w' none := by
  go_enter Tryz.func38, Tryz.ntmps38
  go_wp2
  obtain ⟨R, hR⟩ : ∃ R, R = Value.agg #[.slice (some ⟨w.heap.size + 1 + 1, 0, none⟩) 1 1, .slice (some ⟨w.heap.size + 1 + 1 + 1 + 1 + 1 + 1, 0, none⟩) 1 1] := ⟨_, rfl⟩
  refine ⟨rfl, R, by rw [hR]; simp [results, show Tryz.func38.results = #[.cell 2 27] from rfl, go_sem], w.heap.size + 1 + 1, w.heap.size + 1 + 1 + 1, w.heap.size + 1 + 1 + 1 + 1, w.heap.size + 1 + 1 + 1 + 1 + 1, w.heap.size + 1 + 1 + 1 + 1 + 1 + 1, by rw [hR], ⟨?_, ?_, ?_, ?_, ?_, by omega⟩, ?_⟩
  · exact Bk.al (Bk.al (Bk.al (Bk.al (Bk.new2 (by simp)))))
  · exact Bk.al (Bk.al (Bk.al (Bk.new2 (by simp))))
  · exact Bk.al (Bk.al (Bk.new2 (by simp)))
  · exact Bk.al (Bk.new2 (by simp))
  · exact Bk.new2 (by simp)
  · exact ga (ga (ga (ga (ga (ga (World.grownBy_alloc _ _ _) _) _) _) _) _) _
def smB (b : Bool) : Pg.Pr := ⟨[⟨5, 0, 0, []⟩], [⟨0, [], [0], if b then [.mk 7 0 [.mk 1 0 3 ⟨#[]⟩ []] [] [] []] else []⟩]⟩
theorem smB_true : Ck.takeP (smB true) = .ok () := by kernel_rfl
theorem smB_false : Ck.takeP (smB false) = .error 99 := by kernel_rfl
theorem rowL_nil9 {α : Type} {c by' : Nat} {B : Nat → Prop} {Q : Nat → Nat → α → Prop} : RowL c by' B Q none 0 ([] : List α) := ⟨fun _ => ⟨rfl, rfl⟩, Nat.le_refl _, Nat.zero_le _, by simp, .inl rfl⟩
theorem rowL_one {α : Type} {c by' : Nat} {B : Nat → Prop} {Q : Nat → Nat → α → Prop} {b : Nat} {x : α} (hB : B b) (hQ : Q b 0 x) (hby : by' ≤ 1000) : RowL c by' B Q (some ⟨b, 0, none⟩) 1 [x] :=
  ⟨(fun h => by cases h), Nat.le_refl _, (by decide), (by unfold reachBytes; simp; omega), .inr ⟨b, 0, rfl, hB, fun i y hy => by
    cases i with
    | zero => simp at hy; subst hy; simpa using hQ
    | succ i => simp at hy⟩⟩
theorem Sml.pr {lo : Nat} {w : World} {T R X S F : Nat} (h : Sml lo w 3 T R X S F) : PrC (fun k => k < w.heap.size) w (smB true) (some ⟨T, 0, none⟩) (some ⟨F, 0, none⟩) 1 1 :=
  ⟨rowL_one h.t.lt ⟨none, 0, h.t.cell (i := 0) rfl, h.t.cell (i := 1) rfl, h.t.cell (i := 2) rfl, h.t.cell (i := 3) rfl, rowL_nil9⟩ (by decide),
   rowL_one h.f.lt ⟨none, some ⟨R, 0, none⟩, some ⟨S, 0, none⟩, 0, 1, 1, h.f.cell (i := 0) rfl, h.f.cell (i := 1) rfl, h.f.cell (i := 2) rfl, h.f.cell (i := 3) rfl, rowL_nil9, rowL_one h.r.lt (h.r.cell (i := 0) rfl) (by decide), rowL_one h.s.lt (StC.at ⟨h.s.cell (i := 0) rfl, h.s.cell (i := 1) rfl, h.s.cell (i := 2) rfl, h.s.cell (i := 3) rfl, h.s.cell (i := 4) rfl, h.s.cell (i := 5) rfl, ⟨by decide, by decide⟩, rowL_one h.x.lt (ExC.at ⟨h.x.cell (i := 0) rfl, h.x.cell (i := 1) rfl, h.x.cell (i := 2) rfl, h.x.cell (i := 3) rfl, h.x.cell (i := 4) rfl, ⟨by decide, by decide⟩, by decide, rowL_nil9⟩) (by decide), rowL_nil9, rowL_nil9, rowL_nil9⟩) (by decide)⟩ (by decide)⟩
theorem smF {w : World} {T R F : Nat} (ht : Bk w T 61 [.int .i64 5, .int .i64 0, .int .i64 0, .slice none 0 0]) (hr : Bk w R 3 [.int .i64 0]) (hf : Bk w F 53 [.int .i64 0, .slice none 0 0, .slice (some ⟨R, 0, none⟩) 1 1, .slice none 0 0]) : PrC (fun k => k < w.heap.size) w (smB false) (some ⟨T, 0, none⟩) (some ⟨F, 0, none⟩) 1 1 :=
  ⟨rowL_one ht.lt ⟨none, 0, ht.cell (i := 0) rfl, ht.cell (i := 1) rfl, ht.cell (i := 2) rfl, ht.cell (i := 3) rfl, rowL_nil9⟩ (by decide),
   rowL_one hf.lt ⟨none, some ⟨R, 0, none⟩, none, 0, 1, 0, hf.cell (i := 0) rfl, hf.cell (i := 1) rfl, hf.cell (i := 2) rfl, hf.cell (i := 3) rfl, rowL_nil9, rowL_one hr.lt (hr.cell (i := 0) rfl) (by decide), rowL_nil9⟩ (by decide)⟩
theorem smB_w (b : Bool) : (smB b).w ≤ 60000 := by cases b <;> decide +kernel
theorem smCheck {w : World} {b : Bool} {T F : Nat} (h : PrC (fun k => k < w.heap.size) w (smB b) (some ⟨T, 0, none⟩) (some ⟨F, 0, none⟩) 1 1) :
    Calls Tryz.prog 11 #[.agg #[.slice (some ⟨T, 0, none⟩) 1 1, .slice (some ⟨F, 0, none⟩) 1 1]] w fun e w' => e = .returned (.int .i64 (if b then 0 else 99)) ∧ w.grownBy w' none := by
  have h9 := ckCheck h (pr_rm h (smB_w b)).1 (by cases b <;> decide)
  cases b with
  | true => rw [smB_true] at h9; exact h9
  | false => rw [smB_false] at h9; exact h9
theorem wakes9 (w : World) : Calls Tryz.prog 14 #[] w fun e w' => e = .returned (.bool true) ∧ w.grownBy w' none := by
  have HS : Hid (∀ W, Calls Tryz.prog 38 #[.int .i64 3] W fun r w' => ∃ T R X S F, r = .returned (.agg #[.slice (some ⟨T, 0, none⟩) 1 1, .slice (some ⟨F, 0, none⟩) 1 1]) ∧ Sml W.heap.size w' 3 T R X S F ∧ W.grownBy w' none) := small9 3
  have HB : Hid (∀ W, Calls Tryz.prog 38 #[.int .i64 3] W fun r w' => ∃ T R X S F, r = .returned (.agg #[.slice (some ⟨T, 0, none⟩) 1 1, .slice (some ⟨F, 0, none⟩) 1 1]) ∧ Sml W.heap.size w' 3 T R X S F ∧ W.grownBy w' none) := small9 3
  have HNm : Hid (∀ e W, Calls Tryz.prog 10 #[.int .i64 e] W fun r w' => r = .returned (.int .i64 e) ∧ w' = W) := num9
  go_enter Tryz.func14, Tryz.ntmps14
  go_wp2_with (first
    | (go_at_call 38; refine (HS.out _).mono ?_; rintro e w1 ⟨T1, R1, X1, S1, F1, rfl, hs1, hg1⟩; have H1 : Hid (Sml w.heap.size w1 3 T1 R1 X1 S1 F1 ∧ w.grownBy w1 none) := ⟨hs1, hg1⟩; clear HS hs1 hg1)
    | (go_at_call 38; refine (HB.out _).mono ?_; rintro e w2 ⟨T2, R2, X2, S2, F2, rfl, hs2, hg2⟩; have hlo := hs2.lo; simp only [World.size_alloc] at hlo; have H2 : Hid (Sml (w1.heap.size + 1) w2 3 T2 R2 X2 S2 F2 ∧ w1.grownBy w2 none) := ⟨⟨hs2.t, hs2.r, hs2.x, hs2.s, hs2.f, hlo⟩, grown_trans (World.grownBy_alloc _ _ _) hg2⟩; have hk1 : Bk w2 w1.heap.size 27 [.slice (some ⟨T1, 0, none⟩) 1 1, .slice (some ⟨F1, 0, none⟩) 1 1] := (Bk.new _ _ _).grow hg2; have y0 := hk1.cell (i := 0) rfl; have y1 := hk1.cell (i := 1) rfl; have f3 := hs2.f.cell (i := 3) rfl; have z3 := hs2.f.frozen 3; have hlt2 := hk1.lt; have hF2 := hs2.f.lt; have hF2' : ¬ F2 = w1.heap.size := (by omega); clear hs2 hg2 HB hk1 hlo))
  obtain ⟨W5, hW5⟩ : ∃ W, W = (w2.setCell ⟨F2, 3, none⟩ (.slice none 0 0)).alloc (Obj.cells #[.slice (some ⟨T2, 0, none⟩) 1 1, .slice (some ⟨F2, 0, none⟩) 1 1] 27) := ⟨_, rfl⟩
  have gs : Ch w2 (w2.setCell ⟨F2, 3, none⟩ (.slice none 0 0)) [F2] := Ch.one (grown_set _ _ _ _) (by simp)
  have g25 : Ch w2 W5 [F2] := by rw [hW5]; exact gs.trans (Ch.of (World.grownBy_alloc _ _ _))
  have g15 : w1.grownBy W5 none := ((Ch.of H2.out.2).trans g25).nil (by have := H2.out.1.lo; simp; omega)
  have kf : Bk W5 F2 53 [.int .i64 0, .slice none 0 0, .slice (some ⟨R2, 0, none⟩) 1 1, .slice none 0 0] := by rw [hW5]; exact Bk.al (H2.out.1.f.set 3 (.slice none 0 0))
  have hne : T2 ≠ F2 ∧ R2 ≠ F2 := by
    refine ⟨fun e => ?_, fun e => ?_⟩
    · have h1 := H2.out.1.t; rw [e] at h1; have h2 := H2.out.1.f; unfold Bk at h1 h2; rw [h2] at h1; simp at h1
    · have h1 := H2.out.1.r; rw [e] at h1; have h2 := H2.out.1.f; unfold Bk at h1 h2; rw [h2] at h1; simp at h1
  have kt : Bk W5 T2 61 [.int .i64 5, .int .i64 0, .int .i64 0, .slice none 0 0] := H2.out.1.t.ch g25 (by simp; exact hne.1)
  have kr : Bk W5 R2 3 [.int .i64 0] := H2.out.1.r.ch g25 (by simp; exact hne.2)
  have kp : Bk W5 w2.heap.size 27 [.slice (some ⟨T2, 0, none⟩) 1 1, .slice (some ⟨F2, 0, none⟩) 1 1] := by rw [hW5]; exact Bk.new2 (by simp)
  have HA : Hid (Calls Tryz.prog 11 #[.agg #[.slice (some ⟨T1, 0, none⟩) 1 1, .slice (some ⟨F1, 0, none⟩) 1 1]] W5 fun e w' => e = .returned (.int .i64 0) ∧ W5.grownBy w' none) := smCheck (b := true) (H1.out.1.grow g15).pr
  have HBf : Hid (∀ W, W5.grownBy W none → Calls Tryz.prog 11 #[.agg #[.slice (some ⟨T2, 0, none⟩) 1 1, .slice (some ⟨F2, 0, none⟩) 1 1]] W fun e w' => e = .returned (.int .i64 99) ∧ W.grownBy w' none) := fun W g => smCheck (b := false) (smF (kt.grow g) (kr.grow g) (kf.grow g))
  have HK : Hid (Bk W5 w2.heap.size 27 [.slice (some ⟨T2, 0, none⟩) 1 1, .slice (some ⟨F2, 0, none⟩) 1 1] ∧ w.grownBy W5 none) := ⟨kp, grown_trans H1.out.2 g15⟩
  rw [← hW5]
  clear hW5 gs g25 g15 kf hne kt kr kp y0 y1 f3 z3
  refine Calls.mono HA.out ?_
  rintro e w6 ⟨rfl, hg6⟩
  have HG6 : Hid (W5.grownBy w6 none) := hg6
  have x0 := (HK.out.1.grow hg6).cell (i := 0) rfl
  have x1 := (HK.out.1.grow hg6).cell (i := 1) rfl
  clear hg6 HA
  go_wp2_with (first
    | (go_at_call 10; refine (HNm.out _ _).mono ?_; rintro e w9 ⟨rfl, hw9⟩; rw [hw9]; clear hw9 w9)
    | (go_at_call 11; refine (HBf.out _ HG6.out).mono ?_; rintro e w7 ⟨rfl, hg7⟩; have HG7 : Hid (w6.grownBy w7 none) := hg7; clear hg7))
  go_ret
  exact ⟨rfl, grown_trans HK.out.2 (grown_trans HG6.out HG7.out)⟩
end Go.Proofs.YtcfpnojbhojagaaGreat
namespace Go.Proofs.YtcfpnojbhojagaaGreat
open Go.RowKit
set_option linter.unusedVariables false
theorem OwnG.step {E : Type} {ty : TypeId} {size : Nat} {cells : E → List Value} {In : (Nat → Prop) → World → E → Prop} (hIn : InCh In) {lo hi : Nat} {W w6 : World} {v v6 : Value} {L : List E} (h : OwnG ty size cells In lo hi W v L) (hiW : hi ≤ W.heap.size)
  {e : E} (he : In (fun q => hi ≤ q ∧ q < W.heap.size) W e) (hlo : lo ≤ hi) (o6 : w6.ownsRow lo ty size v6 (L.length + 1) (L.flatMap cells ++ cells e)) (g6 : W.grownBy w6 v.ownBlock) (b6 : ∀ q, v6.ownBlock = some q → v.ownBlock = some q ∨ W.heap.size ≤ q) :
  OwnG ty size cells In lo w6.heap.size w6 v6 (L ++ [e]) := by
 have s6 := g6.size
 have c6 := grown_cho g6
 have hb : ∀ q, v.ownBlock = some q → lo ≤ q ∧ q < hi := fun q hq => ⟨(World.ownsRow.lt h.own q hq).1, h.up q hq⟩
 refine ⟨?_, fun q hq => (World.ownsRow.lt o6 q hq).2, fun i x hx => ?_⟩
 ·rw [List.length_append, List.flatMap_append]
  simpa using o6
 ·by_cases hi' : i < L.length
  ·rw [List.getElem?_append_left hi'] at hx
   refine hIn (h.ent i x hx) c6 (fun q hq hm => hq.2.2 (by simpa using hm)) (fun q hq => ⟨hq.1, by omega, fun hf => ?_⟩)
   rcases b6 q hf with h5 | h5
   ·exact hq.2.2 h5
   ·omega
  ·have hik : i = L.length := by
    have := (List.getElem?_eq_some_iff.1 hx).1
    simp at this
    omega
   subst hik
   rw [List.getElem?_append_right (Nat.le_refl _)] at hx
   simp at hx
   subst hx
   refine hIn he c6 (fun q hq hm => ?_) (fun q hq => ⟨by omega, by omega, fun hf => ?_⟩)
   ·have := (hb q (by simpa using hm)).2
    omega
   ·rcases b6 q hf with h5 | h5
    ·have := (hb q h5).2
     omega
    ·omega
theorem owns_some {w : World} {base : Nat} {ty : TypeId} {size : Nat} {v : Value} {n : Nat} {cs : List Value} (h : w.ownsRow base ty size v (n + 1) cs) : ∃ T c, v = .slice (some ⟨T, 0, none⟩) (n + 1) c := by
 rcases h.2 with ⟨_, e2⟩ | ⟨T, c, cur, e1, _⟩
 ·omega
 ·exact ⟨T, c, e1⟩
structure Lf (w : World) (a : Option Addr) (c : Nat) (L : List Int) : Prop where
 le : L.length ≤ c
 max : c ≤ maxLen
 nil : a = none → c = 0
 lie : ∀ g off s, a = some ⟨g, off, s⟩ → s = none ∧ g < w.heap.size ∧ ∀ (j : Nat) (z : Int), L[j]? = some z → w.cell? ⟨g, off + j, none⟩ = some (.int .u8 z)
theorem Lf.kept {w w' : World} {a : Option Addr} {c : Nat} {L : List Int} (h : Lf w a c L) {row : Option Nat} (hg : w.grownBy w' row) (hne : ∀ g off s, a = some ⟨g, off, s⟩ → some g ≠ row) : Lf w' a c L :=
 ⟨h.le, h.max, h.nil, fun g off s e => by
  obtain ⟨h1, h2, h3⟩ := h.lie g off s e
  exact ⟨h1, Nat.lt_of_lt_of_le h2 hg.size, fun j z hj => hg.cell (h3 j z hj) (hne g off s e)⟩⟩
theorem Rb.down {base : Nat} {T : List Int} {w W1 wr : World} (h : Rb base T W1 wr) (hb : base = w.heap.size) (g : w.grownBy W1 none) : w.grownBy wr none :=
 ⟨h.os.trans g.os, h.tape.trans g.tape, h.output.trans g.output, Nat.le_trans g.size h.size, fun k hk _ => by
  have h1 := g.block k hk (by simp)
  obtain ⟨o, ho⟩ : ∃ o, w.heap[k]? = some o := ⟨_, Array.getElem?_eq_getElem hk⟩
  rw [ho] at h1 ⊢
  exact h.block k o h1 (.inl (by omega))⟩
theorem eqL {w : World} {b1 b2 : Nat} {v1 v2 : Value} {l : List Int} (h1 : OwnL w b1 v1 l) (h2 : OwnL w b2 v2 l) (hn : l.length ≤ 1000000000) : Calls Tryz.prog 16 #[v1, v2] w fun e w' => e = .returned (.bool true) ∧ w.grownBy w' none := by
 obtain ⟨a1, c1, rfl, _, _, _, q1⟩ := h1.toB.shape
 obtain ⟨a2, c2, rfl, _, _, _, q2⟩ := h2.toB.shape
 exact (eqB l.length c1 c2 a1 a2 _ _ w (by omega) q1 q2 (fun _ _ => rfl)).mono fun e w' ⟨he, d, hd⟩ => ⟨he, by rw [hd]; exact grown_drewN (World.grownBy.refl _ _) d⟩
end Go.Proofs.YtcfpnojbhojagaaGreat
