/- Contracts and plain facts that the walks share. -/
import Derived.Test.YtpcgkggpmipiaaaGreatCkDat
import Derived.Test.YtpcgkggpmipiaaaGreatG24
import Derived.Test.YtpcgkggpmipiaaaGreatG23
import Derived.Test.YtpcgkggpmipiaaaGreatCkLoS
import Derived.Test.YtpcgkggpmipiaaaGreatG2
import Derived.Test.YtpcgkggpmipiaaaGreatPgCpO
import Derived.Test.YtpcgkggpmipiaaaGreatG6
import Derived.Laws.BitsAllLaws
import Derived.Defers
import Derived.Recover
import Derived.BigRegion
import Derived.Deep.RegionWith
namespace Go.Proofs.YtpcgkggpmipiaaaGreat
open Go.RowKit
set_option linter.unusedVariables false
set_option maxRecDepth 100000
set_option maxHeartbeats 4000000
theorem num9 (e : Int) (w : World) : Calls Tryz.prog 10 #[.int .i64 e] w fun r w' => r = .returned (.int .i64 e) ∧ w' = w := by
  go_enter Tryz.func10, Tryz.ntmps10
  go_wp2
  go_ret
  exact ⟨rfl, rfl⟩
theorem Bk.new2 {w : World} {B : Nat} {t : TypeId} {l : List Value} (h : B = w.heap.size) : Bk (w.alloc (.cells l.toArray t)) B t l := by rw [h]; exact Bk.new _ _ _
theorem Bk.al {w : World} {B : Nat} {t : TypeId} {l : List Value} {o : Obj} (h : Bk w B t l) : Bk (w.alloc o) B t l := h.grow (World.grownBy_alloc _ _ _)
structure Sml (lo : Nat) (w : World) (n : Int) (T R X S F : Nat) : Prop where
  t : Bk w T 61 [.int .i64 5, .int .i64 0, .int .i64 0, .slice none 0 0]
  r : Bk w R 3 [.int .i64 0]
  x : Bk w X 45 [.int .i64 1, .int .i64 0, .int .i64 n, .string ⟨#[]⟩, .slice none 0 0]
  s : Bk w S 51 [.int .i64 7, .int .i64 0, .slice (some ⟨X, 0, none⟩) 1 1, .slice none 0 0, .slice none 0 0, .slice none 0 0]
  f : Bk w F 53 [.int .i64 0, .slice none 0 0, .slice (some ⟨R, 0, none⟩) 1 1, .slice (some ⟨S, 0, none⟩) 1 1]
  lo : lo ≤ T ∧ lo ≤ R ∧ lo ≤ X ∧ lo ≤ S ∧ lo ≤ F
theorem Sml.grow {lo : Nat} {w w' : World} {n : Int} {T R X S F : Nat} (h : Sml lo w n T R X S F) (g : w.grownBy w' none) : Sml lo w' n T R X S F := ⟨h.t.grow g, h.r.grow g, h.x.grow g, h.s.grow g, h.f.grow g, h.lo⟩
theorem small9 (n : Int) (w : World) : Calls Tryz.prog 38 #[.int .i64 n] w fun r w' => ∃ T R X S F, r = .returned (.agg #[.slice (some ⟨T, 0, none⟩) 1 1, .slice (some ⟨F, 0, none⟩) 1 1]) ∧ Sml w.heap.size w' n T R X S F ∧ w.grownBy w' none := by
  go_enter Tryz.func38, Tryz.ntmps38
  go_wp2
  obtain ⟨R, hR⟩ : ∃ R, R = Value.agg #[.slice (some ⟨w.heap.size + 1 + 1, 0, none⟩) 1 1, .slice (some ⟨w.heap.size + 1 + 1 + 1 + 1 + 1 + 1, 0, none⟩) 1 1] := ⟨_, rfl⟩
  refine ⟨rfl, R, by rw [hR]; simp [results, show Tryz.func38.results = #[.cell 2 27] from rfl, go_sem], w.heap.size + 1 + 1, w.heap.size + 1 + 1 + 1, w.heap.size + 1 + 1 + 1 + 1, w.heap.size + 1 + 1 + 1 + 1 + 1, w.heap.size + 1 + 1 + 1 + 1 + 1 + 1, by rw [hR], ⟨?_, ?_, ?_, ?_, ?_, by omega⟩, ?_⟩
  · exact Bk.al (Bk.al (Bk.al (Bk.al (Bk.new2 (by simp)))))
  · exact Bk.al (Bk.al (Bk.al (Bk.new2 (by simp))))
  · exact Bk.al (Bk.al (Bk.new2 (by simp)))
  · exact Bk.al (Bk.new2 (by simp))
  · exact Bk.new2 (by simp)
  · exact ga (ga (ga (ga (ga (ga (World.grownBy_alloc _ _ _) _) _) _) _) _) _
def smB (b : Bool) : Pg.Pr := ⟨[⟨5, 0, 0, []⟩], [⟨0, [], [0], if b then [.mk 7 0 [.mk 1 0 3 ⟨#[]⟩ []] [] [] []] else []⟩]⟩
theorem smB_true : Ck.takeP (smB true) = .ok () := by kernel_rfl
theorem smB_false : Ck.takeP (smB false) = .error 99 := by kernel_rfl
theorem rowL_nil9 {α : Type} {c by' : Nat} {B : Nat → Prop} {Q : Nat → Nat → α → Prop} : RowL c by' B Q none 0 ([] : List α) := ⟨fun _ => ⟨rfl, rfl⟩, Nat.le_refl _, Nat.zero_le _, by simp, .inl rfl⟩
theorem rowL_one {α : Type} {c by' : Nat} {B : Nat → Prop} {Q : Nat → Nat → α → Prop} {b : Nat} {x : α} (hB : B b) (hQ : Q b 0 x) (hby : by' ≤ 1000) : RowL c by' B Q (some ⟨b, 0, none⟩) 1 [x] :=
  ⟨(fun h => by cases h), Nat.le_refl _, (by decide), (by unfold reachBytes; simp; omega), .inr ⟨b, 0, rfl, hB, fun i y hy => by
    cases i with
    | zero => simp at hy; subst hy; simpa using hQ
    | succ i => simp at hy⟩⟩
theorem Sml.pr {lo : Nat} {w : World} {T R X S F : Nat} (h : Sml lo w 3 T R X S F) : PrC (fun k => k < w.heap.size) w (smB true) (some ⟨T, 0, none⟩) (some ⟨F, 0, none⟩) 1 1 :=
  ⟨rowL_one h.t.lt ⟨none, 0, h.t.cell (i := 0) rfl, h.t.cell (i := 1) rfl, h.t.cell (i := 2) rfl, h.t.cell (i := 3) rfl, rowL_nil9⟩ (by decide),
   rowL_one h.f.lt ⟨none, some ⟨R, 0, none⟩, some ⟨S, 0, none⟩, 0, 1, 1, h.f.cell (i := 0) rfl, h.f.cell (i := 1) rfl, h.f.cell (i := 2) rfl, h.f.cell (i := 3) rfl, rowL_nil9, rowL_one h.r.lt (h.r.cell (i := 0) rfl) (by decide), rowL_one h.s.lt (StC.at ⟨h.s.cell (i := 0) rfl, h.s.cell (i := 1) rfl, h.s.cell (i := 2) rfl, h.s.cell (i := 3) rfl, h.s.cell (i := 4) rfl, h.s.cell (i := 5) rfl, ⟨by decide, by decide⟩, rowL_one h.x.lt (ExC.at ⟨h.x.cell (i := 0) rfl, h.x.cell (i := 1) rfl, h.x.cell (i := 2) rfl, h.x.cell (i := 3) rfl, h.x.cell (i := 4) rfl, ⟨by decide, by decide⟩, by decide, rowL_nil9⟩) (by decide), rowL_nil9, rowL_nil9, rowL_nil9⟩) (by decide)⟩ (by decide)⟩
theorem smF {w : World} {T R F : Nat} (ht : Bk w T 61 [.int .i64 5, .int .i64 0, .int .i64 0, .slice none 0 0]) (hr : Bk w R 3 [.int .i64 0]) (hf : Bk w F 53 [.int .i64 0, .slice none 0 0, .slice (some ⟨R, 0, none⟩) 1 1, .slice none 0 0]) : PrC (fun k => k < w.heap.size) w (smB false) (some ⟨T, 0, none⟩) (some ⟨F, 0, none⟩) 1 1 :=
  ⟨rowL_one ht.lt ⟨none, 0, ht.cell (i := 0) rfl, ht.cell (i := 1) rfl, ht.cell (i := 2) rfl, ht.cell (i := 3) rfl, rowL_nil9⟩ (by decide),
   rowL_one hf.lt ⟨none, some ⟨R, 0, none⟩, none, 0, 1, 0, hf.cell (i := 0) rfl, hf.cell (i := 1) rfl, hf.cell (i := 2) rfl, hf.cell (i := 3) rfl, rowL_nil9, rowL_one hr.lt (hr.cell (i := 0) rfl) (by decide), rowL_nil9⟩ (by decide)⟩
theorem smB_w (b : Bool) : (smB b).w ≤ 60000 := by cases b <;> decide +kernel
theorem smCheck {w : World} {b : Bool} {T F : Nat} (h : PrC (fun k => k < w.heap.size) w (smB b) (some ⟨T, 0, none⟩) (some ⟨F, 0, none⟩) 1 1) :
    Calls Tryz.prog 11 #[.agg #[.slice (some ⟨T, 0, none⟩) 1 1, .slice (some ⟨F, 0, none⟩) 1 1]] w fun e w' => e = .returned (.int .i64 (if b then 0 else 99)) ∧ w.grownBy w' none := by
  have h9 := ckCheck h (pr_rm h (smB_w b)).1 (by cases b <;> decide)
  cases b with
  | true => rw [smB_true] at h9; exact h9
  | false => rw [smB_false] at h9; exact h9
theorem wakes9 (w : World) : Calls Tryz.prog 14 #[] w fun e w' => e = .returned (.bool true) ∧ w.grownBy w' none := by
  have HS : Hid (∀ W, Calls Tryz.prog 38 #[.int .i64 3] W fun r w' => ∃ T R X S F, r = .returned (.agg #[.slice (some ⟨T, 0, none⟩) 1 1, .slice (some ⟨F, 0, none⟩) 1 1]) ∧ Sml W.heap.size w' 3 T R X S F ∧ W.grownBy w' none) := small9 3
  have HB : Hid (∀ W, Calls Tryz.prog 38 #[.int .i64 3] W fun r w' => ∃ T R X S F, r = .returned (.agg #[.slice (some ⟨T, 0, none⟩) 1 1, .slice (some ⟨F, 0, none⟩) 1 1]) ∧ Sml W.heap.size w' 3 T R X S F ∧ W.grownBy w' none) := small9 3
  have HNm : Hid (∀ e W, Calls Tryz.prog 10 #[.int .i64 e] W fun r w' => r = .returned (.int .i64 e) ∧ w' = W) := num9
  go_enter Tryz.func14, Tryz.ntmps14
  go_wp2_with (first
    | (go_at_call 38; refine (HS.out _).mono ?_; rintro e w1 ⟨T1, R1, X1, S1, F1, rfl, hs1, hg1⟩; have H1 : Hid (Sml w.heap.size w1 3 T1 R1 X1 S1 F1 ∧ w.grownBy w1 none) := ⟨hs1, hg1⟩; clear HS hs1 hg1)
    | (go_at_call 38; refine (HB.out _).mono ?_; rintro e w2 ⟨T2, R2, X2, S2, F2, rfl, hs2, hg2⟩; have hlo := hs2.lo; simp only [World.size_alloc] at hlo; have H2 : Hid (Sml (w1.heap.size + 1) w2 3 T2 R2 X2 S2 F2 ∧ w1.grownBy w2 none) := ⟨⟨hs2.t, hs2.r, hs2.x, hs2.s, hs2.f, hlo⟩, grown_trans (World.grownBy_alloc _ _ _) hg2⟩; have hk1 : Bk w2 w1.heap.size 27 [.slice (some ⟨T1, 0, none⟩) 1 1, .slice (some ⟨F1, 0, none⟩) 1 1] := (Bk.new _ _ _).grow hg2; have y0 := hk1.cell (i := 0) rfl; have y1 := hk1.cell (i := 1) rfl; have f3 := hs2.f.cell (i := 3) rfl; have z3 := hs2.f.frozen 3; have hlt2 := hk1.lt; have hF2 := hs2.f.lt; have hF2' : ¬ F2 = w1.heap.size := (by omega); clear hs2 hg2 HB hk1 hlo))
  obtain ⟨W5, hW5⟩ : ∃ W, W = (w2.setCell ⟨F2, 3, none⟩ (.slice none 0 0)).alloc (Obj.cells #[.slice (some ⟨T2, 0, none⟩) 1 1, .slice (some ⟨F2, 0, none⟩) 1 1] 27) := ⟨_, rfl⟩
  have gs : Ch w2 (w2.setCell ⟨F2, 3, none⟩ (.slice none 0 0)) [F2] := Ch.one (grown_set _ _ _ _) (by simp)
  have g25 : Ch w2 W5 [F2] := by rw [hW5]; exact gs.trans (Ch.of (World.grownBy_alloc _ _ _))
  have g15 : w1.grownBy W5 none := ((Ch.of H2.out.2).trans g25).nil (by have := H2.out.1.lo; simp; omega)
  have kf : Bk W5 F2 53 [.int .i64 0, .slice none 0 0, .slice (some ⟨R2, 0, none⟩) 1 1, .slice none 0 0] := by rw [hW5]; exact Bk.al (H2.out.1.f.set 3 (.slice none 0 0))
  have hne : T2 ≠ F2 ∧ R2 ≠ F2 := by
    refine ⟨fun e => ?_, fun e => ?_⟩
    · have h1 := H2.out.1.t; rw [e] at h1; have h2 := H2.out.1.f; unfold Bk at h1 h2; rw [h2] at h1; simp at h1
    · have h1 := H2.out.1.r; rw [e] at h1; have h2 := H2.out.1.f; unfold Bk at h1 h2; rw [h2] at h1; simp at h1
  have kt : Bk W5 T2 61 [.int .i64 5, .int .i64 0, .int .i64 0, .slice none 0 0] := H2.out.1.t.ch g25 (by simp; exact hne.1)
  have kr : Bk W5 R2 3 [.int .i64 0] := H2.out.1.r.ch g25 (by simp; exact hne.2)
  have kp : Bk W5 w2.heap.size 27 [.slice (some ⟨T2, 0, none⟩) 1 1, .slice (some ⟨F2, 0, none⟩) 1 1] := by rw [hW5]; exact Bk.new2 (by simp)
  have HA : Hid (Calls Tryz.prog 11 #[.agg #[.slice (some ⟨T1, 0, none⟩) 1 1, .slice (some ⟨F1, 0, none⟩) 1 1]] W5 fun e w' => e = .returned (.int .i64 0) ∧ W5.grownBy w' none) := smCheck (b := true) (H1.out.1.grow g15).pr
  have HBf : Hid (∀ W, W5.grownBy W none → Calls Tryz.prog 11 #[.agg #[.slice (some ⟨T2, 0, none⟩) 1 1, .slice (some ⟨F2, 0, none⟩) 1 1]] W fun e w' => e = .returned (.int .i64 99) ∧ W.grownBy w' none) := fun W g => smCheck (b := false) (smF (kt.grow g) (kr.grow g) (kf.grow g))
  have HK : Hid (Bk W5 w2.heap.size 27 [.slice (some ⟨T2, 0, none⟩) 1 1, .slice (some ⟨F2, 0, none⟩) 1 1] ∧ w.grownBy W5 none) := ⟨kp, grown_trans H1.out.2 g15⟩
  rw [← hW5]
  clear hW5 gs g25 g15 kf hne kt kr kp y0 y1 f3 z3
  refine Calls.mono HA.out ?_
  rintro e w6 ⟨rfl, hg6⟩
  have HG6 : Hid (W5.grownBy w6 none) := hg6
  have x0 := (HK.out.1.grow hg6).cell (i := 0) rfl
  have x1 := (HK.out.1.grow hg6).cell (i := 1) rfl
  clear hg6 HA
  go_wp2_with (first
    | (go_at_call 10; refine (HNm.out _ _).mono ?_; rintro e w9 ⟨rfl, hw9⟩; rw [hw9]; clear hw9 w9)
    | (go_at_call 11; refine (HBf.out _ HG6.out).mono ?_; rintro e w7 ⟨rfl, hg7⟩; have HG7 : Hid (w6.grownBy w7 none) := hg7; clear hg7))
  go_ret
  exact ⟨rfl, grown_trans HK.out.2 (grown_trans HG6.out HG7.out)⟩
end Go.Proofs.YtpcgkggpmipiaaaGreat
namespace Go.Proofs.YtpcgkggpmipiaaaGreat
open Go.RowKit
set_option linter.unusedVariables false
namespace Ck
def Nz {α : Type} (r : Except Int α) : Prop := ∀ e, r = .error e → e ≠ 0
theorem Nz.ok {α : Type} (a : α) : Nz (.ok a : Except Int α) := fun e h => by cases h
theorem Nz.err {α : Type} {x : Int} (hx : x ≠ 0) : Nz (.error x : Except Int α) := fun e h => by cases h; exact hx
theorem Nz.must {b : Bool} {x : Int} (hx : x ≠ 0) : Nz (Ck.must b x) := by cases b; exact Nz.err hx; exact Nz.ok _
theorem Nz.bind {α β : Type} {a : Except Int α} {f : α → Except Int β} (h1 : Nz a) (h2 : ∀ x, Nz (f x)) : Nz (a >>= f) := by
 cases a with
 | error e => exact fun x h => by cases h; exact h1 e rfl
 | ok x => exact h2 x
theorem Nz.ite {α : Type} {P : Prop} [Decidable P] {a b : Except Int α} (h1 : Nz a) (h2 : Nz b) : Nz (if P then a else b) := by split <;> assumption
theorem nz_fld (c : En) (i n : Int) : Nz (fld c i n) := Nz.bind (Nz.must (by decide)) fun _ => Nz.bind (Nz.must (by decide)) fun _ => Nz.ok _
theorem nz_pre (c : En) (op t n : Int) (sz k : Nat) : Nz (pre c op t n sz k) := by
 unfold pre
 split
 ·exact Nz.err (by decide)
 ·exact Nz.bind (Nz.must (by decide)) fun _ => Nz.bind (Nz.must (by decide)) fun _ => Nz.must (by decide)
theorem nz_ask (c : En) (op t n : Int) (l : List Int) : Nz (ask c op t n l) := by
 unfold ask
 simp only []
 repeat' (first | exact Nz.ok _ | exact Nz.must (by decide) | exact nz_fld _ _ _ | (refine Nz.ite ?_ ?_) | (refine Nz.bind ?_ fun _ => ?_))
theorem nz_tms (c : En) : ∀ l : List Pg.Ex, (∀ y, y ∈ l → Nz (tm c y)) → Nz (tms c l)
 | [], _ => Nz.ok _
 | x :: l, h => by rw [tms]; exact Nz.bind (h x (by simp)) fun _ => Nz.bind (nz_tms c l fun y hy => h y (by simp [hy])) fun _ => Nz.ok _
theorem nz_tm (c : En) : ∀ x : Pg.Ex, Nz (tm c x) := Pg.Ex.ind (fun op t n s args ih => by rw [tm]; exact Nz.bind (nz_pre _ _ _ _ _ _) fun _ => Nz.bind (nz_tms c args ih) fun _ => nz_ask _ _ _ _ _)
theorem nz_spre (op n : Int) (k d a b : Nat) : Nz (spre op n k d a b) := by
 unfold spre
 split
 ·exact Nz.err (by decide)
 ·exact Nz.bind (Nz.must (by decide)) fun _ => Nz.must (by decide)
theorem nz_cal (c : En) (n : Int) (dst l : List Int) : Nz (cal c n dst l) := Nz.bind (Nz.must (by decide)) fun _ => Nz.bind (Nz.must (by decide)) fun _ => Nz.bind (Nz.must (by decide)) fun _ => Nz.bind (Nz.must (by decide)) fun _ => Nz.must (by decide)
theorem nz_sask (c : En) (lp : Nat) (op n : Int) (dst l : List Int) : Nz (sask c lp op n dst l) := by
 unfold sask
 simp only []
 repeat' (first | exact Nz.ok _ | exact Nz.must (by decide) | exact nz_cal _ _ _ _ | (refine Nz.ite ?_ ?_) | (refine Nz.bind ?_ fun _ => ?_))
theorem nz_sms (c : En) : ∀ (l : List Pg.St) (lp : Nat), (∀ y, y ∈ l → ∀ lp, Nz (sm c lp y)) → Nz (sms c lp l)
 | [], _, _ => Nz.ok _
 | x :: l, lp, h => by rw [sms]; exact Nz.bind (h x (by simp) lp) fun _ => nz_sms c l lp fun y hy => h y (by simp [hy])
theorem nz_sm (c : En) : ∀ x : Pg.St, ∀ lp, Nz (sm c lp x) := Pg.St.ind (fun op n args dst a b iha ihb lp => by rw [sm]; exact Nz.bind (nz_spre _ _ _ _ _ _) fun _ => Nz.bind (nz_tms c args fun y _ => nz_tm c y) fun _ => Nz.bind (nz_sask _ _ _ _ _ _) fun _ => Nz.bind (nz_sms c a _ iha) fun _ => nz_sms c b _ ihb)
theorem nz_head (c : En) (f : Pg.Fn) : Nz (head c f) := Nz.bind (Nz.must (by decide)) fun _ => Nz.bind (Nz.must (by decide)) fun _ => Nz.bind (Nz.must (by decide)) fun _ => Nz.bind (Nz.must (by decide)) fun _ => Nz.bind (Nz.must (by decide)) fun _ => Nz.must (by decide)
theorem nz_first (c : En) (f : Pg.Fn) : Nz (first c f) := Nz.bind (Nz.must (by decide)) fun _ => Nz.must (by decide)
theorem nz_heads (c : En) : ∀ (l : List Pg.Fn) (z : Bool), Nz (heads c z l)
 | [], _ => Nz.ok _
 | f :: l, z => by
  rw [heads]
  refine Nz.bind (nz_head c f) fun _ => ?_
  cases z with
  | false => exact nz_heads c l false
  | true => exact Nz.bind (nz_first c f) fun _ => nz_heads c l false
theorem nz_bodies (c : En) : ∀ (l : List Pg.Fn), Nz (bodies c l)
 | [] => Nz.ok _
 | f :: l => by rw [bodies]; exact Nz.bind (nz_sms _ _ _ fun y _ => nz_sm _ y) fun _ => Nz.bind (Nz.must (by decide)) fun _ => nz_bodies c l
theorem take_nz (p : Pg.Pr) : Nz (takeP p) := by
 by_cases h1 : p.err = 0
 case neg => rw [take_1 h1]; exact Nz.err h1
 by_cases h2 : Ty.chk (Pg.tab p.types) p.types.length = 0
 case neg => rw [take_2 h1 h2]; exact Nz.err (by decide)
 by_cases h3 : 0 < p.funcs.length ∧ p.funcs.length ≤ 32
 case neg => rw [take_3 h1 h2 h3]; exact Nz.err (by decide)
 rw [take_4 h1 h2 h3]
 exact Nz.bind (nz_heads _ _ _) fun _ => nz_bodies _ _
end Ck
end Go.Proofs.YtpcgkggpmipiaaaGreat
namespace Go.Proofs.YtpcgkggpmipiaaaGreat
open Go.RowKit
set_option linter.unusedVariables false
set_option maxRecDepth 100000
set_option maxHeartbeats 8000000
structure Tn where
 p : Pg.Pr
 f : Int
 n : Int
def TnAt (B : Nat → Prop) (W : World) (b o : Nat) (x : Tn) : Prop := ∃ a1 a2 k1 k2, W.cell? ⟨b, o, none⟩ = some (.slice a1 x.p.types.length k1) ∧ W.cell? ⟨b, o + 1, none⟩ = some (.slice a2 x.p.funcs.length k2) ∧ W.cell? ⟨b, o + 2, none⟩ = some (.int .i64 x.f) ∧ W.cell? ⟨b, o + 3, none⟩ = some (.int .i64 x.n) ∧ PrC B W x.p a1 a2 k1 k2 ∧ (∀ f, f ∈ x.p.funcs → R64 f.params)
theorem open_fnsR {H : Type} {enc : TypeId × Value → H} {W : World} {spare : Nat → Bool} {held : Bool} {fuel : Nat} {cs : List Value} {x : DataW H × List MemPlace}
  (h : DataW.trod enc Tryz.prog W 0 spare held fuel 25 cs = some x) (hs : Fits 25 x.1) : ∃ a cap l, cs = [.slice a l.length cap] ∧ FnL (· < W.heap.size) W a cap l ∧ ∀ f, f ∈ l → R64 f.params := by
 have k1 : Tryz.prog.cellsOf 3 = 1 := by kernel_rfl
 have k3 : Tryz.prog.cellsOf 48 = 1 := by kernel_rfl
 have k5 : Tryz.prog.cellsOf 49 = 1 := by kernel_rfl
 obtain ⟨a, cap, l, e, hr⟩ := open_rowL (fun b o x => FnAt (· < W.heap.size) W b o x ∧ R64 x.params) Tryz.underlying25 (c := 4) (by kernel_rfl) (by decide) (by kernel_rfl) hs (fun n hn cs b o y hl hb hc hy hz => by
  obtain ⟨xs, kk, hk, hxy, _, hxl, hf⟩ := DataW.trod_struct Tryz.underlying53 hy
  match xs, hxl, cs, hl with
  | [z0, z1, z2, z3], _, [v0, v1, v2, v3], _ =>
   have g0 := hf 0 _ rfl
   have g1 := hf 1 _ rfl
   have g2 := hf 2 _ rfl
   have g3 := hf 3 _ rfl
   simp [k1, k3, k5] at g0 g1 g2 g3
   obtain ⟨n0, e0, _, w0⟩ := DataW.trod_int Tryz.underlying3 g0
   have w0 := bounds_i64 w0
   obtain ⟨a1, c1, l1, e1, f1⟩ := open_numL g1 (hz.field Tryz.underlying53 hxy (i := 1) rfl rfl)
   obtain ⟨a2, c2, l2, e2, f2⟩ := open_numL g2 (hz.field Tryz.underlying53 hxy (i := 2) rfl rfl)
   obtain ⟨a3, c3, l3, e3, f3⟩ := open_sts kk g3 (hz.field Tryz.underlying53 hxy (i := 3) rfl rfl)
   simp at e0 e1 e2 e3
   subst e0 e1 e2 e3
   exact ⟨⟨n0, l1, l2, l3⟩, ⟨a1, a2, a3, c1, c2, c3, hc 0 _ rfl, hc 1 _ rfl, hc 2 _ rfl, hc 3 _ rfl, f1, f2, f3⟩, by unfold R64; show _ ≤ n0 ∧ n0 ≤ _; omega⟩) h
 refine ⟨a, cap, l, e, hr.mono (fun _ h => h) (fun _ _ _ _ _ h => h.1), fun f hf => ?_⟩
 rcases hr.lie with h0 | ⟨b, o, _, _, hx⟩
 ·rw [h0] at hf; simp at hf
 ·obtain ⟨i, hi⟩ := List.getElem?_of_mem hf
  exact (hx i f hi).2
theorem open_turns {H : Type} {enc : TypeId × Value → H} {W : World} {spare : Nat → Bool} {held : Bool} {fuel : Nat} {cs : List Value} {x : DataW H × List MemPlace}
  (h : DataW.trod enc Tryz.prog W 0 spare held fuel 62 cs = some x) (hs : Fits 62 x.1) : ∃ a cap l, cs = [.slice a l.length cap] ∧ RowL 4 64 (· < W.heap.size) (TnAt (· < W.heap.size) W) a cap l := by
 have k0 : Tryz.prog.cellsOf 27 = 2 := by kernel_rfl
 have k1 : Tryz.prog.cellsOf 24 = 1 := by kernel_rfl
 have k2 : Tryz.prog.cellsOf 25 = 1 := by kernel_rfl
 have k3 : Tryz.prog.cellsOf 3 = 1 := by kernel_rfl
 refine open_rowL (TnAt (· < W.heap.size) W) Tryz.underlying62 (c := 4) (by kernel_rfl) (by decide) (by kernel_rfl) hs (fun n hn cs b o y hl hb hc hy hz => ?_) h
 obtain ⟨xs, kk, hk, hxy, _, hxl, hf⟩ := DataW.trod_struct Tryz.underlying64 hy
 match xs, hxl, cs, hl with
 | [z0, z1, z2], _, [v0, v1, v2, v3], _ =>
  have g0 := hf 0 _ rfl
  have g1 := hf 1 _ rfl
  have g2 := hf 2 _ rfl
  simp [k0, k3] at g0 g1 g2
  have hz0 := hz.field Tryz.underlying64 hxy (i := 0) rfl rfl
  obtain ⟨ys, kk2, hk2, hxy2, _, hxl2, hf2⟩ := DataW.trod_struct Tryz.underlying27 g0
  match ys, hxl2 with
  | [y0, y1], _ =>
   have p0 := hf2 0 _ rfl
   have p1 := hf2 1 _ rfl
   simp [k1, k2] at p0 p1
   obtain ⟨a0, c0, l0, e0, f0⟩ := open_tps p0 (hz0.field Tryz.underlying27 hxy2 (i := 0) rfl rfl)
   obtain ⟨a1, c1, l1, e1, f1, r1⟩ := open_fnsR p1 (hz0.field Tryz.underlying27 hxy2 (i := 1) rfl rfl)
   obtain ⟨n2, e2, _⟩ := DataW.trod_int Tryz.underlying3 g1
   obtain ⟨n3, e3, _⟩ := DataW.trod_int Tryz.underlying3 g2
   simp at e0 e1 e2 e3
   subst e0 e1 e2 e3
   exact ⟨⟨⟨l0, l1⟩, n2, n3⟩, a0, a1, c0, c1, hc 0 _ rfl, hc 1 _ rfl, hc 2 _ rfl, hc 3 _ rfl, ⟨f0, f1⟩, r1⟩
theorem within_any (i : Int) {n : Int} (h0 : 0 < n) (h1 : n ≤ 9223372036854775807) : ∃ q : Int, 0 ≤ q ∧ q < n ∧ ∀ w, Calls Tryz.prog 22 #[.int .i64 i, .int .i64 n] w fun r w' => r = .returned (.int .i64 q) ∧ w' = w := by
 have hn0 : IntKind.u64.wrap n = n := by unfold IntKind.wrap; simp [IntKind.bits, IntKind.signed]; omega
 have hnz : (n == 0) = false := by simpa using (by omega : n ≠ 0)
 have hq : 0 ≤ IntKind.u64.wrap i := by unfold IntKind.wrap; simp [IntKind.bits, IntKind.signed]; omega
 have hr1 : 0 ≤ (IntKind.u64.wrap i).tmod n := Int.tmod_nonneg _ hq
 have hr2 : (IntKind.u64.wrap i).tmod n < n := Int.tmod_lt_of_pos _ h0
 have hw2 : IntKind.u64.wrap ((IntKind.u64.wrap i).tmod n) = (IntKind.u64.wrap i).tmod n := by
  generalize (IntKind.u64.wrap i).tmod n = z at *
  unfold IntKind.wrap; simp [IntKind.bits, IntKind.signed]; omega
 have hw3 : IntKind.i64.wrap ((IntKind.u64.wrap i).tmod n) = (IntKind.u64.wrap i).tmod n := by
  generalize (IntKind.u64.wrap i).tmod n = z at *
  unfold IntKind.wrap; simp [IntKind.bits, IntKind.signed]; omega
 generalize hz : (IntKind.u64.wrap i).tmod n = z at *
 refine ⟨z, hr1, hr2, fun w => ?_⟩
 go_enter Tryz.func22, Tryz.ntmps22
 go_wp2
 go_ret
 exact ⟨by simp, rfl⟩
theorem lo_row {lo : Nat} {w w9 : World} {T N c n LB of : Nat} {L : List FE} {s : Nat → Nat} {e : FE} {f' : Pg.Fn} {a' : Option Addr} {c' : Nat} (h : OwnI 53 4 cellsFE InFI lo w (.slice (some ⟨T, 0, none⟩) N c) L s) (hl : L.length = N) (hn : L[n]? = some e) (hch : Ch w w9 [T, LB]) (ha : e.a1 = some ⟨LB, of, none⟩) (hne : e.x.locals ≠ [])
  (hrow : w9.ownsRow lo 53 4 (.slice (some ⟨T, 0, none⟩) N c) N ((L.set n ⟨f', e.a1, e.k1, e.a2, e.k2, a', c'⟩).flatMap cellsFE)) (h1 : f'.locals.length = e.x.locals.length) (h2 : f'.results = e.x.results) (hloc : ∀ i z, f'.locals[i]? = some z → w9.cell? ⟨LB, of + i, none⟩ = some (.int .i64 z))
  (hb : StL (fun q => w.heap.size ≤ q ∧ q < w9.heap.size) w9 a' c' f'.body) (hf : N * 80 ≤ reachBytes) : FnL (· < w9.heap.size) w9 (some ⟨T, 0, none⟩) c ((L.set n ⟨f', e.a1, e.k1, e.a2, e.k2, a', c'⟩).map FE.x) := by
 have hT := World.ownsRow.lt h.own T rfl
 have hin := h.ent n e hn
 obtain ⟨u1, i1, i2, i3⟩ := hin
 have hLB : (s n ≤ LB ∧ LB < s (n + 1) ∧ T ≠ LB) ∧ LB < u1 := by
  rcases i1.1.lie with h0 | ⟨b, o, e9, hb9, _⟩
  ·exact absurd h0 hne
  ·rw [ha] at e9
   injection e9 with e9
   injection e9 with e9
   subst e9
   exact ⟨⟨hb9.1.1, hb9.1.2.1, fun e => hb9.1.2.2 (by rw [e]; rfl)⟩, hb9.2⟩
 have hq : ∀ i q, s i ≤ q ∧ q < s (i + 1) ∧ Value.ownBlock (.slice (some ⟨T, 0, none⟩) N c) ≠ some q → q < w9.heap.size := fun i q hq => Nat.lt_of_lt_of_le hq.2.1 (Nat.le_trans (h.hi _) hch.size)
 obtain ⟨hrl, hcase⟩ := hrow
 rcases hcase with ⟨e1, _⟩ | ⟨g, cap, cur, e1, e2, e3, e4, e5, e6⟩
 ·cases e1
 ·injection e1 with e1 e7 e8
  injection e1 with e1
  injection e1 with e1
  subst e1
  subst e8
  have hrow : w9.ownsRow lo 53 4 (.slice (some ⟨T, 0, none⟩) N c) N ((L.set n ⟨f', e.a1, e.k1, e.a2, e.k2, a', c'⟩).flatMap cellsFE) := ⟨hrl, .inr ⟨T, c, cur, rfl, e2, e3, e4, e5, e6⟩⟩
  refine ⟨(fun h => by cases h), by simpa [hl] using e4, e5, by simpa [hl] using hf, .inr ⟨T, 0, rfl, Nat.lt_of_lt_of_le hT.2 hch.size, fun i x hx => ?_⟩⟩
  rw [List.getElem?_map] at hx
  obtain ⟨ei, hei, rfl⟩ := Option.map_eq_some_iff.1 hx
  have hcell : ∀ j u, (cellsFE ei)[j]? = some u → w9.cell? ⟨T, 0 + i * 4 + j, none⟩ = some u := fun j u hu => by
   rw [Nat.zero_add]
   exact own_cell lenF9 hrow hei hu
  by_cases hin : n = i
  ·subst hin
   rw [List.getElem?_set, if_pos rfl] at hei
   split at hei
   ·injection hei with hei
    subst hei
    refine ⟨_, _, _, _, _, _, hcell 0 _ rfl, hcell 1 _ rfl, hcell 2 _ rfl, hcell 3 _ rfl, ?_, ?_, StL.ch (l := []) hb (Ch.refl _ _) (by simp) (fun q hq => hq.2)⟩
    ·refine ⟨fun h => ?_, by rw [h1]; exact i1.1.le, i1.1.max, by rw [h1]; exact i1.1.fits, .inr ⟨LB, of, ha, hq n LB ⟨hLB.1.1, hLB.1.2.1, fun e => hLB.1.2.2 (by injection e)⟩, fun i z hz => ?_⟩⟩
     ·have := i1.1.nil h
      exact absurd this.1 hne
     ·unfold NumQ
      rw [Nat.mul_one]
      exact hloc i z hz
    ·dsimp only
     rw [h2]
     refine NumL.ch i2 hch (fun q hq hm => ?_) (fun q hq' => hq n q hq'.1)
     simp at hm
     rcases hm with h9 | h9
     ·exact hq.1.2.2 (by rw [h9]; rfl)
     ·have := hq.2
      omega
   ·cases hei
  ·rw [List.getElem?_set, if_neg hin] at hei
   obtain ⟨v1, j1, j2, j3⟩ := h.ent i ei hei
   have hd : ∀ q, s i ≤ q ∧ q < s (i + 1) ∧ Value.ownBlock (.slice (some ⟨T, 0, none⟩) N c) ≠ some q → q ∉ [T, LB] := fun q hq hm => by
    simp at hm
    rcases hm with h9 | h9
    ·exact hq.2.2 (by rw [h9]; rfl)
    ·rcases Nat.lt_or_ge i n with h8 | h8
     ·have := h.mo (i + 1) n h8
      have := hLB.1.1
      omega
     ·have := h.mo (n + 1) i (by omega)
      have := hLB.1.2.1
      omega
   exact ⟨_, _, _, _, _, _, hcell 0 _ rfl, hcell 1 _ rfl, hcell 2 _ rfl, hcell 3 _ rfl, NumL.ch j1.1 hch (fun q hq => hd q hq.1) (fun q hq' => hq i q hq'.1), NumL.ch j2 hch (fun q hq => hd q hq.1) (fun q hq' => hq i q hq'.1), StL.ch j3 hch (fun q hq => hd q hq.1) (fun q hq' => hq i q hq'.1)⟩
structure LoC (lo mm : Nat) (w : World) (p : Pg.Pr) (a5 a6 : Option Addr) (k5 m k6 : Nat) (L : List FE) (s : Nat → Nat) : Prop where
 e : L.map FE.x = p.funcs
 t : TpL (fun q => lo ≤ q ∧ q < mm) w a5 k5 p.types
 o : OwnI 53 4 cellsFE InFI mm w (.slice a6 m k6) L s
 l1 : lo ≤ mm
 l2 : mm ≤ w.heap.size
 len : L.length = m
structure LoE (mm : Nat) (w : World) (f : Pg.Fn) (T k6 m n LB of : Nat) (L : List FE) (s : Nat → Nat) (e : FE) : Prop where
 at' : L[n]? = some e
 x : e.x = f
 a1 : e.a1 = some ⟨LB, of, none⟩
 lo : mm ≤ LB
 hi : LB < w.heap.size
 ne : T ≠ LB
 int : IntB w LB
 nums : ∀ i z, f.locals[i]? = some z → w.cell? ⟨LB, of + i, none⟩ = some (.int .i64 z)
theorem LoC.fn {lo mm : Nat} {w : World} {p : Pg.Pr} {a5 a6 : Option Addr} {k5 m k6 : Nat} {L : List FE} {s : Nat → Nat} (h : LoC lo mm w p a5 a6 k5 m k6 L s) {n : Nat} (hn : n < m) {f : Pg.Fn} (hf : p.funcs.getD n Pg.fn0 = f) (hl : f.locals ≠ []) : ∃ T LB of e, a6 = some ⟨T, 0, none⟩ ∧ LoE mm w f T k6 m n LB of L s e := by
 have hnl : n < L.length := by rw [h.len]; exact hn
 obtain ⟨T, hT⟩ : ∃ T, a6 = some ⟨T, 0, none⟩ := by
  rcases h.o.own.2 with ⟨e1, e2⟩ | ⟨T, c, cur, e1, _⟩
  ·rw [h.len] at e2; omega
  ·injection e1 with e1; exact ⟨T, e1⟩
 have he : L[n]? = some L[n] := List.getElem?_eq_getElem hnl
 have hx : L[n].x = f := by
  rw [← hf, ← h.e, List.getD_eq_getElem?_getD, List.getElem?_map, he]
  rfl
 obtain ⟨u1, i1, _, _⟩ := h.o.ent n _ he
 rw [hx] at i1
 rcases i1.1.lie with h0 | ⟨b, o, e9, hb9, hn9⟩
 ·exact absurd h0 hl
 ·refine ⟨T, b, o, L[n], hT, he, hx, e9, Nat.le_trans (h.o.lo n) hb9.1.1, Nat.lt_of_lt_of_le hb9.1.2.1 (h.o.hi _), fun e => hb9.1.2.2 (by rw [hT, e]; rfl), i1.2 hl b o e9, fun i z hz => ?_⟩
  have h8 := hn9 i z hz
  unfold NumQ at h8
  rw [Nat.mul_one] at h8
  exact h8
end Go.Proofs.YtpcgkggpmipiaaaGreat
namespace Go.Proofs.YtpcgkggpmipiaaaGreat
open Go.RowKit
set_option linter.unusedVariables false
end Go.Proofs.YtpcgkggpmipiaaaGreat
namespace Go.Proofs.YtpcgkggpmipiaaaGreat
open Go.RowKit
set_option linter.unusedVariables false
set_option maxRecDepth 100000
set_option maxHeartbeats 8000000
structure CmF (p : Pg.Pr) : Prop where
 rm : Rm ⟨false, 0, 0, 0⟩ [] p.dl
 nt : p.types.length ≤ 1000000
 en : p.dl.en.length ≤ 900000000
 wt : p.w ≤ 2500
theorem CmF.of {B : Nat → Prop} {w : World} {p : Pg.Pr} {a1 a2 : Option Addr} {k1 k2 : Nat} (h : PrC B w p a1 a2 k1 k2) (hw : p.w ≤ 2500) : CmF p := by
 obtain ⟨b1, b2, b3, b4, b5⟩ := pr_rm h (by omega)
 obtain ⟨q1, q2, q3, q4⟩ := Pg.pr_bd p h.f.rr (by omega)
 obtain ⟨a1, _, _⟩ := Pg.ts_bd p.types
 obtain ⟨c1, _, _, _, _⟩ := Pg.fs_bd p.funcs h.f.rr
 have hw9 := hw
 unfold Pg.Pr.w at hw
 exact ⟨b1, by omega, by omega, by omega⟩
end Go.Proofs.YtpcgkggpmipiaaaGreat
