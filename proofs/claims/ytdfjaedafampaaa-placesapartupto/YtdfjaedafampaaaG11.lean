/- Contracts and plain facts that the walks share. -/
import Derived.Test.YtdfjaedafampaaaG10
import Derived.Test.YtdfjaedafampaaaG6
import Derived.Test.YtdfjaedafampaaaRuLate
import Derived.Deep.DeepCutAuto
namespace Go.Proofs.Ytdfjaedafampaaa
open Go.RowKit
set_option linter.unusedVariables false
theorem num11_any (x : Int) (w : World) :
    Calls Try.prog 10 #[.int .i64 x] w fun e w' => e = .returned (.int .i64 x) ∧ w' = w := by
  go_enter Try.func10, Try.ntmps10
  go_wp2
  go_ret
  exact ⟨rfl, rfl⟩
/-- what is asked: a table, parameters, results -/
structure PaAt (W : World) (b o : Nat) (v : TbV) : Prop where
  tb : TbAt W b o v
  iz : v.ia = none → v.im = 0 ∧ v.ic = 0
  fz : v.fa = none → v.fm = 0 ∧ v.fc = 0
set_option maxRecDepth 100000 in
theorem open_asks11 {H : Type} {enc : TypeId × Value → H} {W : World} {spare : Nat → Bool} {held : Bool} {fuel : Nat} {cs : List Value} {x : DataW H × List MemPlace}
    (h : DataW.trod enc Try.prog W 0 spare held fuel 22 cs = some x) (hs : Fits 22 x.1) : ∃ a len cap V, cs = [.slice a len cap] ∧ RowB 3 72 PaAt W a len cap V := by
  have c3 : Try.prog.cellsOf 23 = 1 := by kernel_rfl
  have c4 : Try.prog.cellsOf 24 = 1 := by kernel_rfl
  refine open_rowB ⟨none, 0, 0, fun _ => ⟨0, 0, 0, 0, fun _ => 0⟩, none, 0, 0, fun _ => 0, none, 0, 0, fun _ => 0⟩ PaAt Try.underlying22 (c := 3) (by kernel_rfl) (by decide) (by kernel_rfl) hs (fun n cs b o y hl hb hc hy hz => ?_) h
  obtain ⟨xs, kk, hk, hxy, _, hxl, hf⟩ := DataW.trod_struct Try.underlying26 hy
  match xs, hxl, cs, hl with
  | [z0, z1, z2], _, [v0, v1, v2], _ =>
    have g0 := hf 0 _ rfl
    have g1 := hf 1 _ rfl
    have g2 := hf 2 _ rfl
    simp [c3, c4] at g0 g1 g2
    obtain ⟨a0, l0, p0, V0, e0, f0⟩ := open_types g0 (hz.field Try.underlying26 hxy (i := 0) rfl rfl)
    obtain ⟨a1, l1, p1, V1, e1, f1⟩ := open_nums g1 (hz.field Try.underlying26 hxy (i := 1) rfl rfl)
    obtain ⟨a2, l2, p2, V2, e2, f2⟩ := open_nums g2 (hz.field Try.underlying26 hxy (i := 2) rfl rfl)
    simp at e0 e1 e2
    subst e0 e1 e2
    exact ⟨⟨a0, l0, p0, V0, a1, l1, p1, V1, a2, l2, p2, V2⟩, ⟨hc 0 _ rfl, hc 1 _ rfl, hc 2 _ rfl, f0.tys.1, f0.tys.2, f0.fits, f1.num, f2.num⟩, f1.nil, f2.nil⟩
theorem AsgO.grow {w w' : World} {base : Nat} {x : Value} {A R : List Ab.Pc} {s : Int} {va vr : Value} (h : AsgO w base x A R s va vr) (g : w.grownBy w' none) : AsgO w' base x A R s va vr := ⟨h.e, h.a.grow g, h.r.grow g, h.ap⟩
theorem AsgO.low {w : World} {base base' : Nat} {x : Value} {A R : List Ab.Pc} {s : Int} {va vr : Value} (h : AsgO w base x A R s va vr) (hb : base' ≤ base) : AsgO w base' x A R s va vr := ⟨h.e, h.a.low hb, h.r.low hb, h.ap⟩
/-- places and another thing's block lie apart -/
theorem OwnP.ne {w : World} {base B : Nat} {v : Value} {l : List Ab.Pc} {t : TypeId} {m : List Value} (h : OwnP w base v l) (k : Bk w B t m) (ht : t ≠ 47) : v.ownBlock ≠ some B := by
  rcases h.2 with ⟨rfl, _⟩ | ⟨T, c, cur, rfl, e2, e3, _⟩
  · intro e; cases e
  · intro e
    obtain rfl : T = B := by injection e
    unfold Bk at k
    rw [e3] at k
    injection k with k
    injection k with k1 k2
    exact ht k2.symm
theorem AsgO.ch {w w' : World} {base B : Nat} {x : Value} {A R : List Ab.Pc} {s : Int} {va vr : Value} {m : List Value} (h : AsgO w base x A R s va vr) (k : Bk w B 31 m) (g : Ch w w' [B]) : AsgO w' base x A R s va vr :=
  ⟨h.e, h.a.ch g (fun q hq hm => by simp at hm; subst hm; exact h.a.ne k (by decide) hq), h.r.ch g (fun q hq hm => by simp at hm; subst hm; exact h.r.ne k (by decide) hq), h.ap⟩
/-- the table that wakes -/
def Ab.wT : Nat → Ty.TyV
  | 0 => ⟨5, 0, 0, 0, fun _ => 0⟩
  | _ => ⟨15, 0, 0, 0, fun _ => 0⟩
def Ab.wL : Nat → Int
  | 0 => 0
  | _ => 1
def Ab.wR : Nat → Int := fun _ => 0
theorem Ab.w_err : Ab.err Ab.wT 2 Ab.wL 2 Ab.wR 1 = 0 := by decide
theorem Ab.w_a : Ab.lA Ab.wT 2 Ab.wL 2 Ab.wR 1 = [⟨false, 0⟩, ⟨false, 1⟩, ⟨false, 2⟩] := by rfl
theorem Ab.w_r : Ab.lR Ab.wT 2 Ab.wL 2 Ab.wR 1 = [⟨false, 0⟩] := by rfl
theorem Ab.w_s : Ab.sN Ab.wT 2 Ab.wL 2 Ab.wR 1 = 0 := by decide
theorem pcIn_lit {w : World} {b : Nat} {P : Nat → Ab.Pc} {n : Nat} {t : TypeId} {l : List Value} (h : Bk w b t l) (hl : ∀ i, i < n → l[i * 2]? = some (.bool (P i).st) ∧ l[i * 2 + 1]? = some (.int .i64 (P i).n)) : PcIn w (some ⟨b, 0, none⟩) n n P :=
  ⟨Nat.le_refl _, .inr ⟨b, 0, rfl, fun i hi => ⟨by rw [Nat.zero_add]; exact h.cell (hl i hi).1, by rw [Nat.zero_add]; exact h.cell (hl i hi).2⟩⟩⟩
def Ab.l3 : List Ab.Pc := [⟨false, 0⟩, ⟨false, 1⟩, ⟨false, 2⟩]
def Ab.l1 : List Ab.Pc := [⟨false, 0⟩]
theorem wake_eq {w4 : World} {aa ra : Option Addr} {ac rc : Nat} (ha : PcIn w4 aa 3 ac (fun i => Ab.l3.getD i Ab.pc0)) (hr : PcIn w4 ra 1 rc (fun i => Ab.l1.getD i Ab.pc0)) (o : Obj) :
    Calls Try.prog 11 #[.agg #[.slice aa 3 ac, .slice ra 1 rc, .int .i64 0], .agg #[.slice (some ⟨w4.heap.size + 1, 0, none⟩) 3 3, .slice (some ⟨w4.heap.size + 1 + 1, 0, none⟩) 1 1, .int .i64 0]]
      (((w4.alloc o).alloc (Obj.cells #[.bool false, .int .i64 0, .bool false, .int .i64 1, .bool false, .int .i64 2] 47)).alloc (Obj.cells #[.bool false, .int .i64 0] 47)) fun e w' => e = .returned (.bool true) ∧ w4.grownBy w' none := by
  have g1 := World.grownBy_alloc w4 o none
  obtain ⟨W1, hW1⟩ : ∃ W1, W1 = w4.alloc o := ⟨_, rfl⟩
  have s1 : W1.heap.size = w4.heap.size + 1 := by rw [hW1]; simp
  rw [← hW1] at g1 ⊢
  have g2 := World.grownBy_alloc W1 (Obj.cells #[.bool false, .int .i64 0, .bool false, .int .i64 1, .bool false, .int .i64 2] 47) none
  have k2 := Bk.new W1 47 [.bool false, .int .i64 0, .bool false, .int .i64 1, .bool false, .int .i64 2]
  rw [s1] at k2
  obtain ⟨W2, hW2⟩ : ∃ W2, W2 = W1.alloc (Obj.cells #[.bool false, .int .i64 0, .bool false, .int .i64 1, .bool false, .int .i64 2] 47) := ⟨_, rfl⟩
  have s2 : W2.heap.size = w4.heap.size + 1 + 1 := by rw [hW2]; simp [s1]
  have k2 : Bk W2 (w4.heap.size + 1) 47 [.bool false, .int .i64 0, .bool false, .int .i64 1, .bool false, .int .i64 2] := by rw [hW2]; exact k2
  rw [← hW2] at g2 ⊢
  have g3 := World.grownBy_alloc W2 (Obj.cells #[.bool false, .int .i64 0] 47) none
  have k3 := Bk.new W2 47 [.bool false, .int .i64 0]
  rw [s2] at k3
  refine (eqAssign_true (P' := fun i => Ab.l3.getD i Ab.pc0) (Q' := fun i => Ab.l1.getD i Ab.pc0) (ha.grow (grown_trans g1 (grown_trans g2 g3))) (pcIn_lit (k2.grow g3) ?_) (fun _ _ => rfl) (by decide) (hr.grow (grown_trans g1 (grown_trans g2 g3))) (pcIn_lit k3 ?_) (fun _ _ => rfl) (by decide)).mono fun e w' ⟨he, hg⟩ => ⟨he, grown_trans (grown_trans g1 (grown_trans g2 g3)) hg⟩
  · intro i hi
    have h3 : i = 0 ∨ i = 1 ∨ i = 2 := by omega
    rcases h3 with rfl | rfl | rfl <;> exact ⟨rfl, rfl⟩
  · intro i hi
    obtain rfl : i = 0 := by omega
    exact ⟨rfl, rfl⟩
set_option maxRecDepth 100000 in
set_option maxHeartbeats 8000000 in
theorem wakes11_any (w : World) : Calls Try.prog 14 #[] w fun e w' => e = .returned (.bool true) ∧ w.grownBy w' none := by
  have HN : Hid (∀ x W, Calls Try.prog 10 #[.int .i64 x] W fun e w' => e = .returned (.int .i64 x) ∧ w' = W) := num11_any
  obtain ⟨W1, hW1⟩ : ∃ W1, W1 = w.alloc (.cells #[.int .i64 5, .int .i64 0, .int .i64 0, .slice none 0 0, .int .i64 15, .int .i64 0, .int .i64 0, .slice none 0 0] 50) := ⟨_, rfl⟩
  obtain ⟨W2, hW2⟩ : ∃ W2, W2 = W1.alloc (.cells #[.int .i64 0, .int .i64 1] 3) := ⟨_, rfl⟩
  obtain ⟨W3, hW3⟩ : ∃ W3, W3 = W2.alloc (.cells #[.int .i64 0] 3) := ⟨_, rfl⟩
  have s1 : W1.heap.size = w.heap.size + 1 := by rw [hW1]; simp
  have s2 : W2.heap.size = w.heap.size + 2 := by rw [hW2]; simp [s1]
  have s3 : W3.heap.size = w.heap.size + 3 := by rw [hW3]; simp [s2]
  have g12 : W1.grownBy W2 none := by rw [hW2]; exact World.grownBy_alloc _ _ _
  have g23 : W2.grownBy W3 none := by rw [hW3]; exact World.grownBy_alloc _ _ _
  have g01 : w.grownBy W1 none := by rw [hW1]; exact World.grownBy_alloc _ _ _
  have b1 : Bk W3 w.heap.size 50 [.int .i64 5, .int .i64 0, .int .i64 0, .slice none 0 0, .int .i64 15, .int .i64 0, .int .i64 0, .slice none 0 0] := Bk.grow (w := W1) (by rw [hW1]; exact Bk.new _ _ _) (grown_trans g12 g23)
  have b2 : Bk W3 (w.heap.size + 1) 3 [.int .i64 0, .int .i64 1] := Bk.grow (w := W2) (by rw [hW2, ← s1]; exact Bk.new _ _ _) g23
  have b3 : Bk W3 (w.heap.size + 2) 3 [.int .i64 0] := by rw [hW3, ← s2]; exact Bk.new _ _ _
  have hT : TysIn W3.heap.size W3 (some ⟨w.heap.size, 0, none⟩) 2 2 Ab.wT := by
    refine ⟨Nat.le_refl _, by decide, .inr ⟨_, 0, rfl, by omega, fun i hi => ?_⟩⟩
    have h3 : i = 0 ∨ i = 1 := by omega
    rcases h3 with rfl | rfl
    · exact ⟨none, 0, b1.cell rfl, b1.cell rfl, b1.cell rfl, b1.cell rfl, ⟨Nat.le_refl _, Nat.zero_le _, .inl rfl⟩, fun _ => ⟨rfl, rfl⟩⟩
    · exact ⟨none, 0, b1.cell rfl, b1.cell rfl, b1.cell rfl, b1.cell rfl, ⟨Nat.le_refl _, Nat.zero_le _, .inl rfl⟩, fun _ => ⟨rfl, rfl⟩⟩
  have hL : NumIn W3.heap.size W3 (some ⟨w.heap.size + 1, 0, none⟩) 2 2 Ab.wL := by
    refine ⟨Nat.le_refl _, by decide, .inr ⟨_, 0, rfl, by omega, fun i hi => ?_⟩⟩
    have h3 : i = 0 ∨ i = 1 := by omega
    rcases h3 with rfl | rfl
    · exact b2.cell rfl
    · exact b2.cell rfl
  have hR : NumIn W3.heap.size W3 (some ⟨w.heap.size + 2, 0, none⟩) 1 1 Ab.wR := by
    refine ⟨Nat.le_refl _, by decide, .inr ⟨_, 0, rfl, by omega, fun i hi => ?_⟩⟩
    obtain rfl : i = 0 := by omega
    exact b3.cell rfl
  have hP := places_any hT (Nat.le_refl _) hL hR
  rw [Ab.w_err, Ab.w_a, Ab.w_r, Ab.w_s] at hP
  have HP : Hid (Calls Try.prog 7 #[.slice (some ⟨w.heap.size, 0, none⟩) 2 2, .slice (some ⟨w.heap.size + 1, 0, none⟩) 2 2, .slice (some ⟨w.heap.size + 2, 0, none⟩) 1 1] W3 fun e w' => ∃ x va vr, e = .returned (.tuple #[x, .int .i64 0]) ∧ AsgO w' W3.heap.size x [⟨false, 0⟩, ⟨false, 1⟩, ⟨false, 2⟩] [⟨false, 0⟩] 0 va vr ∧ W3.grownBy w' none) := hP
  have HW : Hid (((w.alloc (.cells #[.int .i64 5, .int .i64 0, .int .i64 0, .slice none 0 0, .int .i64 15, .int .i64 0, .int .i64 0, .slice none 0 0] 50)).alloc (.cells #[.int .i64 0, .int .i64 1] 3)).alloc (.cells #[.int .i64 0] 3) = W3) := by rw [← hW1, ← hW2, ← hW3]; exact rfl
  have HG : Hid (w.grownBy W3 none) := grown_trans g01 (grown_trans g12 g23)
  clear hP hT hL hR b1 b2 b3 g01 g12 g23 s1 s2 s3 hW1 hW2 hW3
  go_enter Try.func14, Try.ntmps14
  go_wp2_with (first
    | (go_at_call 7; rw [HW.out]; refine HP.out.mono ?_; rintro e w4 ⟨x, va, vr, rfl, ho4, hg4⟩; have HO4 : Hid (AsgO w4 W3.heap.size x [⟨false, 0⟩, ⟨false, 1⟩, ⟨false, 2⟩] [⟨false, 0⟩] 0 va vr) := ho4; have HG4 : Hid (w.grownBy w4 none) := grown_trans HG.out hg4; have hx := ho4.e; subst hx; obtain ⟨aa, ac, hva, hpa⟩ := ho4.a.pcIn; obtain ⟨ra, rc, hvr, hpr⟩ := ho4.r.pcIn; simp only [List.length_cons, List.length_nil, Nat.zero_add, Nat.reduceAdd] at hva hvr hpa hpr; subst hva hvr; have HPa : Hid (PcIn w4 aa 3 ac (fun i => Ab.l3.getD i Ab.pc0)) := hpa; have HPr : Hid (PcIn w4 ra 1 rc (fun i => Ab.l1.getD i Ab.pc0)) := hpr; clear ho4 hg4 hpa hpr)
    | (go_at_call 10; refine (HN.out _ _).mono ?_; rintro e w5 ⟨rfl, hw5⟩; rw [hw5]; clear hw5 w5)
    | (go_at_call 11; refine (wake_eq HPa.out HPr.out _).mono ?_; rintro e w6 ⟨rfl, hg6⟩))
  go_ret
  exact ⟨by first | rfl | simp, grown_trans HG4.out hg6⟩
end Go.Proofs.Ytdfjaedafampaaa
