/- Statements with two locals in each other's place. -/
import Derived.Test.YtpcgkggpmipiaaaGreatG5
namespace Go.Proofs.YtpcgkggpmipiaaaGreat
open Go.RowKit
set_option linter.unusedVariables false
set_option maxRecDepth 100000
set_option maxHeartbeats 8000000
structure SwI (w wr : World) (T n c k : Nat) (L : List SE) (s : Nat → Nat) : Prop where
 own : wr.ownsRow w.heap.size 51 6 (.slice (some ⟨T, 0, none⟩) n c) n (L.flatMap cellsSE)
 len : L.length = n
 lo : ∀ i, w.heap.size ≤ s i
 mo : ∀ i j, i ≤ j → s i ≤ s j
 hi : ∀ i, s i ≤ wr.heap.size
 old : ∀ (i : Nat) (e : SE), k ≤ i → L[i]? = some e → InSI (fun q => s i ≤ q ∧ q < s (i + 1) ∧ T ≠ q) wr e
 new : ∀ (i : Nat) (e : SE), i < k → L[i]? = some e → InSE (fun q => w.heap.size ≤ q ∧ q < wr.heap.size ∧ T ≠ q ∧ ¬ (s k ≤ q ∧ q < s n)) wr e
 gr : w.grownBy wr none
theorem SwI.of {w w1 : World} {T n c : Nat} {L : List SE} {s : Nat → Nat} (h : CopI 51 6 cellsSE InSI w w1 n (.slice (some ⟨T, 0, none⟩) n c) L s) : SwI w w1 T n c 0 L s :=
 ⟨by have := h.o.own; rw [h.len] at this; exact this, h.len, h.o.lo, h.o.mo, h.o.hi, fun i e _ hi => @inSI_ch _ _ _ _ [] _ (h.o.ent i e hi) (Ch.refl _ _) (by simp) (fun q hq => ⟨hq.1, hq.2.1, fun e => hq.2.2 (by rw [e]; rfl)⟩), fun i e hi => absurd hi (by omega), h.gr⟩
theorem SwI.step {w wr w9 : World} {T n c k : Nat} {L : List SE} {s : Nat → Nat} (h : SwI w wr T n c k L s) (hk : k < n) {ls : List Nat} (hch : Ch wr w9 ls) (hls : ∀ q, q ∈ ls → q = T ∨ (s k ≤ q ∧ q < s (k + 1))) {e' : SE}
  (ho : w9.ownsRow w.heap.size 51 6 (.slice (some ⟨T, 0, none⟩) n c) n ((L.set k e').flatMap cellsSE)) (he : InSE (fun q => w.heap.size ≤ q ∧ q < w9.heap.size ∧ T ≠ q ∧ ¬ (s (k + 1) ≤ q ∧ q < s n)) w9 e') : SwI w w9 T n c (k + 1) (L.set k e') s := by
 have hT := World.ownsRow.lt h.own T rfl
 refine ⟨ho, by rw [List.length_set]; exact h.len, h.lo, h.mo, fun i => Nat.le_trans (h.hi i) hch.size, fun i e hi hx => ?_, fun i e hi hx => ?_, ?_⟩
 ·rw [List.getElem?_set, if_neg (by omega)] at hx
  refine inSI_ch (h.old i e (by omega) hx) hch (fun q hq hm => ?_) (fun q hq => hq)
  have h2 := h.mo (k + 1) i hi
  rcases hls q hm with h1 | h1
  ·exact hq.2.2 h1.symm
  ·have := hq.1
   omega
 ·by_cases hik : k = i
  ·subst hik
   rw [List.getElem?_set, if_pos rfl] at hx
   split at hx
   ·injection hx with hx
    subst hx
    exact he
   ·cases hx
  ·rw [List.getElem?_set, if_neg hik] at hx
   have h2 := h.mo (k + 1) n hk
   have h3 := h.mo k (k + 1) (by omega)
   refine inSE_ch (h.new i e (by omega) hx) hch (fun q hq hm => ?_) (fun q hq => ⟨hq.1, Nat.lt_of_lt_of_le hq.2.1 hch.size, hq.2.2.1, fun h9 => hq.2.2.2 ⟨by omega, h9.2⟩⟩)
   rcases hls q hm with h1 | h1
   ·exact hq.2.2.1 h1.symm
   ·exact hq.2.2.2 ⟨h1.1, by omega⟩
 ·exact ((Ch.of (l := ls) h.gr).trans hch).nil (fun q hq => by
   rcases hls q hq with h1 | h1
   ·rw [h1]; exact hT.1
   ·have := h.lo k
    omega)
theorem SwI.row {w wr : World} {T n c : Nat} {L : List SE} {s : Nat → Nat} (h : SwI w wr T n c n L s) (hf : n * 112 ≤ reachBytes) : StL (Fresh w wr) wr (some ⟨T, 0, none⟩) c (L.map SE.x) := by
 have hl := h.len
 have hC : CopG 51 6 cellsSE InSE w wr n (.slice (some ⟨T, 0, none⟩) n c) L := ⟨by rw [hl]; exact h.own, hl, fun i e hi => @inSE_ch _ _ _ _ [] _ (h.new i e (by have := (List.getElem?_eq_some_iff.1 hi).1; omega) hi) (Ch.refl _ _) (by simp) (fun q hq => ⟨hq.1, hq.2.1, fun e => by injection e with e; exact hq.2.2.1 e⟩), h.gr⟩
 obtain ⟨a9, c9, e9, hT1⟩ := CopG.row (cells := cellsSE) (In := InSE) (by' := 112) (fun e => rfl) hC hf SE.x (StAt (Fresh w wr) wr) (fun b o e hcc hin => StC.at ⟨hcc 0 _ rfl, hcc 1 _ rfl, hcc 2 _ rfl, hcc 3 _ rfl, hcc 4 _ rfl, hcc 5 _ rfl, hin.2.2.2.2, hin.1, hin.2.1, hin.2.2.1, hin.2.2.2.1⟩) (fun e he => @inSE_ch _ _ _ _ [] _ he (Ch.refl _ _) (by simp) (fun q hq => ⟨hq.1, hq.2.1⟩))
 injection e9 with e8 _ e7
 rw [← e8, ← e7] at hT1
 exact hT1
theorem IntB.fz {w : World} {b : Nat} (h : IntB w b) (j : Nat) : w.frozen? ⟨b, j, none⟩ = false := by
 obtain ⟨cur, h⟩ := h
 exact frozen_of_row w b j cur _ h
theorem IntB.set {w : World} {b : Nat} (h : IntB w b) (j : Nat) (u : Value) : IntB (w.setCell ⟨b, j, none⟩ u) b := by
 obtain ⟨cur, h⟩ := h
 exact ⟨_, heap_setCell_same w b j cur _ u h⟩
structure DsI (s : Int → Int) (w1 w2 : World) (D od j : Nat) (d : List Int) (lo T n c : Nat) (L : List SE) : Prop where
 ch : Ch w1 w2 [D]
 own : w2.ownsRow lo 51 6 (.slice (some ⟨T, 0, none⟩) n c) n (L.flatMap cellsSE)
 nums : ∀ i z, ((d.take j).map s ++ d.drop j)[i]? = some z → w2.cell? ⟨D, od + i, none⟩ = some (.int .i64 z)
 int : d ≠ [] → IntB w2 D ∧ T ≠ D
theorem DsI.step {s : Int → Int} {w1 w2 : World} {D od j : Nat} {d : List Int} {lo T n c : Nat} {L : List SE} (h : DsI s w1 w2 D od j d lo T n c L) (hj : j < d.length) : DsI s w1 (w2.drew.setCell ⟨D, od + j, none⟩ (.int .i64 (s d[j]))) D od (j + 1) d lo T n c L := by
 have hd : d ≠ [] := by intro e; rw [e] at hj; simp at hj
 obtain ⟨hI, hT⟩ := h.int hd
 have c1 : Ch w2 w2.drew [D] := Ch.of (grown_drew (World.grownBy.refl _ _))
 have c2 : Ch w2.drew (w2.drew.setCell ⟨D, od + j, none⟩ (.int .i64 (s d[j]))) [D] := Ch.one (grown_set _ _ _ _) (by simp)
 have hI2 : IntB w2.drew D := hI
 refine ⟨h.ch.trans (c1.trans c2), ownsRow_chg h.own (c1.trans c2) (fun q hq hm => ?_), fun i z hz => ?_, fun _ => ⟨hI2.set _ _, hT⟩⟩
 ·simp at hm
  injection hq with hq
  exact hT (hq.trans hm)
 ·rw [← mid_set s hj rfl] at hz
  by_cases hi : j = i
  ·subst hi
   rw [List.getElem?_set, if_pos rfl] at hz
   split at hz
   ·injection hz with hz
    subst hz
    exact World.cell?_setCell_same _ _ _ (h.nums j _ (mid_at s hj rfl))
   ·cases hz
  ·rw [List.getElem?_set, if_neg hi] at hz
   rw [World.cell?_setCell_other _ _ _ _ (by first | (simp; done) | (simp; omega))]
   exact h.nums i z hz
def SwS (x y : Int) (l : List Pg.St) : Prop := ∀ (B : Nat → Prop) (w : World) (a : Option Addr) (c : Nat), (∀ q, B q → q < w.heap.size) → StL B w a c l →
 Calls Tryz.prog 23 #[.slice a l.length c, .int .i64 x, .int .i64 y] w fun e w' => ∃ a' c', e = .returned (.slice a' l.length c') ∧ StL (Fresh w w') w' a' c' (Pg.swSs (Pg.oth x y) l) ∧ w.grownBy w' none
theorem swapped_list {x y : Int} (hx : R64 x) (hy : R64 y) (l : List Pg.St) (ih : ∀ z, z ∈ l → SwS x y z.a ∧ SwS x y z.b) : SwS x y l := by
 intro B w a c hB h
 have hle := h.le
 have hmx := h.max
 have hfi : l.length * 112 ≤ 140737488351232 := h.fits
 unfold maxLen at hmx
 have HC0 : Hid (Calls Tryz.prog 48 #[.slice a l.length c] w fun e w' => ∃ a' c' L s, e = .returned (.slice a' l.length c') ∧ L.map SE.x = l ∧ CopI 51 6 cellsSE InSI w w' l.length (.slice a' l.length c') L s) := copyStmts_int l B w a c hB h
 have HI : Hid (∀ z, z ∈ l → SwS x y z.a ∧ SwS x y z.b) := ih
 have HR : Hid (R64 x ∧ R64 y) := ⟨hx, hy⟩
 have HOt : Hid (∀ n W, Calls Tryz.prog 49 #[.int .i64 n, .int .i64 x, .int .i64 y] W fun e w' => e = .returned (.int .i64 (Pg.oth x y n)) ∧ w' = W) := fun n W => other_any
 clear h ih hx hy hB
 go_enter Tryz.func23, Tryz.ntmps23
 go_wp2_with (go_at_call 48; refine HC0.out.mono ?_; rintro e w1 ⟨a1, c1, L1, s1, rfl, hm1, hc1⟩; have HM1 : Hid (L1.map SE.x = l) := hm1; have HC1 : Hid (CopI 51 6 cellsSE InSI w w1 l.length (.slice a1 l.length c1) L1 s1) := hc1; clear hm1 hc1 HC0)
 have HA : Hid ((a1 = none ∧ c1 = 0 ∧ l = []) ∨ ∃ T, a1 = some ⟨T, 0, none⟩) := by
  rcases HC1.out.o.own.2 with ⟨e1, e2⟩ | ⟨T, c, cur, e1, _⟩
  ·injection e1 with e1 e3 e4
   exact .inl ⟨e1, e4, List.length_eq_zero_iff.1 e3⟩
  ·injection e1 with e1
   exact .inr ⟨T, e1⟩
 go_loopw [8] (fun ix wr => ∃ (k : Nat) (L : List SE), ix = .int .i64 k ∧ k ≤ l.length ∧ L.map SE.x = (l.take k).map (Pg.St.sw (Pg.oth x y)) ++ l.drop k ∧ (∀ T, a1 = some ⟨T, 0, none⟩ → SwI w wr T l.length c1 k L s1) ∧ w.grownBy wr none) (fun ix _ => l.length - (intOf ix).toNat)
 case atStart => exact ⟨0, L1, rfl, Nat.zero_le _, by simpa using HM1.out, fun T hT => SwI.of (by rw [← hT]; exact HC1.out), HC1.out.gr⟩
 case round =>
  obtain ⟨k, L, rfl, hk, hm, hc, hgr⟩ := hrel
  obtain ⟨wo, rfl⟩ : ∃ wo, wo = wr := ⟨_, rfl⟩
  by_cases hkn : k < l.length
  ·have hkn' : (k : Int) < l.length := by omega
   obtain ⟨T, hT⟩ : ∃ T, a1 = some ⟨T, 0, none⟩ := by
    rcases HA.out with ⟨_, _, e2⟩ | h9
    ·rw [e2] at hkn; simp at hkn
    ·exact h9
   subst hT
   have hc := hc T rfl
   have hat := mid_at _ hkn hm
   rw [List.getElem?_map] at hat
   obtain ⟨e0, he0, hex⟩ := Option.map_eq_some_iff.1 hat
   have hown := hc.own
   have hin := hc.old k e0 (Nat.le_refl _) he0
   have hTl := World.ownsRow.lt hown T rfl
   obtain ⟨x0, a1', k1, a2, k2, a3, k3, a4, k4⟩ := e0
   dsimp only at hex
   have hIx := HI.out _ (List.getElem_mem hkn)
   rw [← hex] at hIx
   have hms := mid_set _ hkn hm
   rw [← hex] at hms
   obtain ⟨⟨u1, u2, i1, i2, i3, i4⟩, hRn⟩ := hin
   dsimp only at i1 i2 i3 i4 hRn
   obtain ⟨D, od, hD⟩ : ∃ D od, (x0.dst ≠ [] → a2 = some ⟨D, od, none⟩ ∧ u1 ≤ D ∧ D < u2 ∧ s1 k ≤ D ∧ D < s1 (k + 1) ∧ T ≠ D ∧ IntB wo D ∧ ∀ i z, x0.dst[i]? = some z → wo.cell? ⟨D, od + i, none⟩ = some (.int .i64 z)) ∧ (x0.dst = [] → D = T) := by
    by_cases hd : x0.dst = []
    ·exact ⟨T, 0, fun h => absurd hd h, fun _ => rfl⟩
    ·rcases i2.1.lie with h0 | ⟨b, o, e, hb, hxx⟩
     ·exact absurd h0 hd
     ·exact ⟨b, o, fun _ => ⟨e, hb.2.1, hb.2.2, hb.1.1, hb.1.2.1, hb.1.2.2, i2.2 hd b o e, fun i z hz => by have := hxx i z hz; rw [Nat.mul_one] at this; exact this⟩, fun h => absurd h hd⟩
   have hq9 : ∀ q, s1 k ≤ q ∧ q < s1 (k + 1) ∧ T ≠ q → q < wo.heap.size := fun q hq => Nat.lt_of_lt_of_le hq.2.1 (hc.hi _)
   have hq1 : ∀ q, ((s1 k ≤ q ∧ q < s1 (k + 1) ∧ T ≠ q) ∧ q < u1) → q ∉ [T, D] := fun q hq hm => by
    simp at hm
    rcases hm with h9 | h9
    ·exact hq.1.2.2 h9.symm
    ·by_cases hd : x0.dst = []
     ·exact hq.1.2.2 (by rw [h9, hD.2 hd])
     ·have := (hD.1 hd).2.1; omega
   have hq2 : ∀ q, ((s1 k ≤ q ∧ q < s1 (k + 1) ∧ T ≠ q) ∧ u2 ≤ q) → q ∉ [T, D] := fun q hq hm => by
    simp at hm
    rcases hm with h9 | h9
    ·exact hq.1.2.2 h9.symm
    ·by_cases hd : x0.dst = []
     ·exact hq.1.2.2 (by rw [h9, hD.2 hd])
     ·have := (hD.1 hd).2.2.1; omega
   have HCa : Hid (∀ W, Ch wo W [T, D] → Calls Tryz.prog 50 #[.slice a1' x0.args.length k1, .int .i64 x, .int .i64 y] W fun e w' => ∃ a' c', e = .returned (.slice a' x0.args.length c') ∧ ExL (Fresh W w') w' a' c' (Pg.swEs (Pg.oth x y) x0.args) ∧ W.grownBy w' none) := fun W hW => swappedExprs_any HR.out.1 HR.out.2 x0.args _ W a1' k1 (ExL.ch i1 hW hq1 (fun _ h => h))
   have HCb : Hid (∀ W, Ch wo W [T, D] → Calls Tryz.prog 23 #[.slice a3 x0.a.length k3, .int .i64 x, .int .i64 y] W fun e w' => ∃ a' c', e = .returned (.slice a' x0.a.length c') ∧ StL (Fresh W w') w' a' c' (Pg.swSs (Pg.oth x y) x0.a) ∧ W.grownBy w' none) := fun W hW => hIx.1 _ W a3 k3 (fun q hq => Nat.lt_of_lt_of_le (hq9 q hq.1) hW.size) (StL.ch i3 hW hq2 (fun _ h => h))
   have HCc : Hid (∀ W, Ch wo W [T, D] → Calls Tryz.prog 23 #[.slice a4 x0.b.length k4, .int .i64 x, .int .i64 y] W fun e w' => ∃ a' c', e = .returned (.slice a' x0.b.length c') ∧ StL (Fresh W w') w' a' c' (Pg.swSs (Pg.oth x y) x0.b) ∧ W.grownBy w' none) := fun W hW => hIx.2 _ W a4 k4 (fun q hq => Nat.lt_of_lt_of_le (hq9 q hq.1) hW.size) (StL.ch i4 hW hq2 (fun _ h => h))
   have HD : Hid ((x0.dst ≠ [] → a2 = some ⟨D, od, none⟩ ∧ u1 ≤ D ∧ D < u2 ∧ s1 k ≤ D ∧ D < s1 (k + 1) ∧ T ≠ D ∧ IntB wo D ∧ ∀ i z, x0.dst[i]? = some z → wo.cell? ⟨D, od + i, none⟩ = some (.int .i64 z)) ∧ (x0.dst = [] → D = T)) := hD
   have HDl : Hid (a2 = none → x0.dst = [] ∧ k2 = 0) := i2.1.nil
   have hdle := i2.1.le
   have hdmx := i2.1.max
   have hdfi : x0.dst.length * 8 ≤ 140737488351232 := i2.1.fits
   unfold maxLen at hdmx
   have HSw : Hid (SwI w wo T l.length c1 k L s1) := hc
   have HMS : Hid ((L.map SE.x).set k (x0.sw (Pg.oth x y)) = (l.take (k + 1)).map (Pg.St.sw (Pg.oth x y)) ++ l.drop (k + 1)) := hms
   have HE0 : Hid (L[k]? = some ⟨x0, a1', k1, a2, k2, a3, k3, a4, k4⟩) := he0
   have HTl : Hid (w.heap.size ≤ T ∧ T < wo.heap.size) := hTl
   have HRn : Hid (R64 x0.n) := hRn
   have c0 : wo.cell? ⟨T, k * 6, none⟩ = some (.int .i64 x0.op) := own_cell (j := 0) lenS9 hown he0 rfl
   have c1' : wo.cell? ⟨T, k * 6 + 1, none⟩ = some (.int .i64 x0.n) := own_cell (j := 1) lenS9 hown he0 rfl
   have z1 : wo.frozen? ⟨T, k * 6 + 1, none⟩ = false := World.ownsRow.frozenAt hown _
   obtain ⟨n1, W1, hW1⟩ : ∃ n1 W1, ((x0.op == 1) = true ∧ n1 = Pg.oth x y x0.n ∧ W1 = wo.setCell ⟨T, k * 6 + 1, none⟩ (.int .i64 (Pg.oth x y x0.n))) ∨ ((x0.op == 1) = false ∧ n1 = x0.n ∧ W1 = wo) := by
    by_cases h4 : x0.op = 1
    ·exact ⟨_, _, .inl ⟨by simpa using h4, rfl, rfl⟩⟩
    ·exact ⟨_, _, .inr ⟨by simpa using h4, rfl, rfl⟩⟩
   obtain ⟨e1, he1⟩ : ∃ e1 : SE, e1 = ⟨.mk x0.op n1 x0.args x0.dst x0.a x0.b, a1', k1, a2, k2, a3, k3, a4, k4⟩ := ⟨_, rfl⟩
   have hX : x0.sw (Pg.oth x y) = .mk x0.op n1 (Pg.swEs (Pg.oth x y) x0.args) (x0.dst.map (Pg.oth x y)) (Pg.swSs (Pg.oth x y) x0.a) (Pg.swSs (Pg.oth x y) x0.b) ∧ R64 n1 ∧ Ch wo W1 [T] ∧ W1.ownsRow w.heap.size 51 6 (.slice (some ⟨T, 0, none⟩) l.length c1) l.length ((L.set k e1).flatMap cellsSE) := by
    have e9 : x0.sw (Pg.oth x y) = .mk x0.op (if x0.op = 1 then Pg.oth x y x0.n else x0.n) (Pg.swEs (Pg.oth x y) x0.args) (x0.dst.map (Pg.oth x y)) (Pg.swSs (Pg.oth x y) x0.a) (Pg.swSs (Pg.oth x y) x0.b) := by cases x0; rfl
    rcases hW1 with ⟨h1, h2, h3⟩ | ⟨h1, h2, h3⟩
    ·rw [e9, if_pos (by simpa using h1), h3, he1, h2]
     exact ⟨rfl, oth_r64 HR.out.1 HR.out.2 HRn.out, Ch.one (grown_set _ _ _ _) (by simp), own_set lenS9 hown HE0.out (by omega) rfl⟩
    ·rw [e9, if_neg (by simpa using h1), h3, he1, h2]
     exact ⟨rfl, HRn.out, Ch.refl _ _, own_same (e' := (⟨.mk x0.op x0.n x0.args x0.dst x0.a x0.b, a1', k1, a2, k2, a3, k3, a4, k4⟩ : SE)) lenS9 hown HE0.out rfl⟩
   have hE1 : (L.set k e1)[k]? = some e1 := by
    rw [List.getElem?_set, if_pos rfl, if_pos ((List.getElem?_eq_some_iff.1 HE0.out).1)]
   have hce : cellsSE e1 = [.int .i64 x0.op, .int .i64 n1, .slice a1' x0.args.length k1, .slice a2 x0.dst.length k2, .slice a3 x0.a.length k3, .slice a4 x0.b.length k4] := by rw [he1]; rfl
   have hDs : DsI (Pg.oth x y) W1 W1 D od 0 x0.dst w.heap.size T l.length c1 (L.set k e1) := by
    refine ⟨Ch.refl _ _, hX.2.2.2, fun i z hz => ?_, fun hd => ?_⟩
    ·have hd : x0.dst ≠ [] := by intro e; rw [e] at hz; simp at hz
     have h9 := HD.out.1 hd
     exact hX.2.2.1.cell (h9.2.2.2.2.2.2.2 i z (by simpa using hz)) (by simp; exact fun e => h9.2.2.2.2.2.1 e.symm)
    ·have h9 := HD.out.1 hd
     exact ⟨h9.2.2.2.2.2.2.1.ch hX.2.2.1 (by simp; exact fun e => h9.2.2.2.2.2.1 e.symm), h9.2.2.2.2.2.1⟩
   have HX : Hid (x0.sw (Pg.oth x y) = .mk x0.op n1 (Pg.swEs (Pg.oth x y) x0.args) (x0.dst.map (Pg.oth x y)) (Pg.swSs (Pg.oth x y) x0.a) (Pg.swSs (Pg.oth x y) x0.b) ∧ R64 n1 ∧ Ch wo W1 [T] ∧ W1.ownsRow w.heap.size 51 6 (.slice (some ⟨T, 0, none⟩) l.length c1) l.length ((L.set k e1).flatMap cellsSE)) := hX
   have HE1 : Hid ((L.set k e1)[k]? = some e1) := hE1
   have HCE : Hid (cellsSE e1 = [.int .i64 x0.op, .int .i64 n1, .slice a1' x0.args.length k1, .slice a2 x0.dst.length k2, .slice a3 x0.a.length k3, .slice a4 x0.b.length k4]) := hce
   have HDs : Hid (DsI (Pg.oth x y) W1 W1 D od 0 x0.dst w.heap.size T l.length c1 (L.set k e1)) := hDs
   have HC12 : Hid (∀ W, Ch W1 W [D] → Ch wo W [T, D]) := fun W h => (HX.out.2.2.1.mono (fun q _ h => by simp at h; simp [h])).trans (h.mono (fun q _ h => by simp at h; simp [h]))
   have HEnd : Hid (∀ (w2 w3 w4 w5 : World) (b1 b3 b4 : Option Addr) (m1 m3 m4 : Nat), DsI (Pg.oth x y) W1 w2 D od x0.dst.length x0.dst w.heap.size T l.length c1 (L.set k e1) → w2.grownBy w3 none → ExL (Fresh w2 w3) w3 b1 m1 (Pg.swEs (Pg.oth x y) x0.args) →
     (w3.setCell ⟨T, k * 6 + 2, none⟩ (.slice b1 x0.args.length m1)).grownBy w4 none → StL (Fresh (w3.setCell ⟨T, k * 6 + 2, none⟩ (.slice b1 x0.args.length m1)) w4) w4 b3 m3 (Pg.swSs (Pg.oth x y) x0.a) →
     (w4.setCell ⟨T, k * 6 + 4, none⟩ (.slice b3 x0.a.length m3)).grownBy w5 none → StL (Fresh (w4.setCell ⟨T, k * 6 + 4, none⟩ (.slice b3 x0.a.length m3)) w5) w5 b4 m4 (Pg.swSs (Pg.oth x y) x0.b) →
     SwI w (w5.setCell ⟨T, k * 6 + 5, none⟩ (.slice b4 x0.b.length m4)) T l.length c1 (k + 1) (L.set k ⟨x0.sw (Pg.oth x y), b1, m1, a2, k2, b3, m3, b4, m4⟩) s1) := fun w2 w3 w4 w5 b1 b3 b4 m1 m3 m4 hd g3 n3 g4 n4 g5 n5 => by
    have hT := HTl.out
    have q1 := HX.out.2.2.1.size
    have q2 := hd.ch.size
    have q3 := g3.size
    have q4 := g4.size
    have q5 := g5.size
    simp only [World.size_setCell] at q4 q5
    have hsn := HSw.out.hi l.length
    have hsk := HSw.out.hi (k + 1)
    have hsl := HSw.out.lo k
    have o3 := hd.own.kept g3 (.inr (by simp [Value.ownBlock]))
    have o3' := own_set (j := 2) (u := .slice b1 x0.args.length m1) (e' := (⟨.mk x0.op n1 x0.args x0.dst x0.a x0.b, b1, m1, a2, k2, a3, k3, a4, k4⟩ : SE)) lenS9 o3 HE1.out (by omega) (by rw [HCE.out]; rfl)
    rw [List.set_set] at o3'
    have o4 := o3'.kept g4 (.inr (by simp [Value.ownBlock]))
    have hkl : k < L.length := (List.getElem?_eq_some_iff.1 HE0.out).1
    have o4' := own_set (j := 4) (u := .slice b3 x0.a.length m3) (e := (⟨.mk x0.op n1 x0.args x0.dst x0.a x0.b, b1, m1, a2, k2, a3, k3, a4, k4⟩ : SE)) (e' := (⟨.mk x0.op n1 x0.args x0.dst x0.a x0.b, b1, m1, a2, k2, b3, m3, a4, k4⟩ : SE)) lenS9 o4 (by rw [List.getElem?_set, if_pos rfl, if_pos hkl]) (by omega) rfl
    rw [List.set_set] at o4'
    have o5 := o4'.kept g5 (.inr (by simp [Value.ownBlock]))
    have o5' := own_set (j := 5) (u := .slice b4 x0.b.length m4) (e := (⟨.mk x0.op n1 x0.args x0.dst x0.a x0.b, b1, m1, a2, k2, b3, m3, a4, k4⟩ : SE)) (e' := (⟨x0.sw (Pg.oth x y), b1, m1, a2, k2, b3, m3, b4, m4⟩ : SE)) lenS9 o5 (by rw [List.getElem?_set, if_pos rfl, if_pos hkl]) (by omega) (by rw [HX.out.1]; show [Value.int .i64 x0.op, .int .i64 n1, .slice b1 (Pg.swEs (Pg.oth x y) x0.args).length m1, .slice a2 (x0.dst.map (Pg.oth x y)).length k2, .slice b3 (Pg.swSs (Pg.oth x y) x0.a).length m3, .slice b4 (Pg.swSs (Pg.oth x y) x0.b).length m4] = _; rw [Pg.swEs_len, Pg.swSs_len, Pg.swSs_len, List.length_map]; rfl)
    rw [List.set_set] at o5'
    generalize hw9 : w5.setCell ⟨T, k * 6 + 5, none⟩ (.slice b4 x0.b.length m4) = w9 at *
    have h59 : Ch w5 w9 [T] := by rw [← hw9]; exact Ch.one (grown_set _ _ _ _) (by simp)
    have h49 : Ch w4 w9 [T] := ((Ch.one (grown_set _ _ _ _) (by simp)).trans (Ch.of g5)).trans h59
    have h39 : Ch w3 w9 [T] := ((Ch.one (grown_set _ _ _ _) (by simp)).trans (Ch.of g4)).trans h49
    have h29 : Ch w2 w9 [T] := (Ch.of g3).trans h39
    have h09 : Ch wo w9 [T, D] := (HC12.out _ hd.ch).trans (h29.mono (fun q _ h => by simp at h; simp [h]))
    have z9 := h59.size
    have hQ : ∀ q, w2.heap.size ≤ q → q < w9.heap.size → w.heap.size ≤ q ∧ q < w9.heap.size ∧ T ≠ q ∧ ¬ (s1 (k + 1) ≤ q ∧ q < s1 l.length) := fun q h1 h2 => ⟨by omega, h2, by omega, by omega⟩
    have hxx := HX.out.1
    refine SwI.step HSw.out hkn h09 (fun q hq => ?_) o5' ?_
    ·simp at hq
     rcases hq with h9 | h9
     ·exact .inl h9
     ·by_cases hdd : x0.dst = []
      ·exact .inl (by rw [h9, HD.out.2 hdd])
      ·have := HD.out.1 hdd
       exact .inr ⟨by rw [h9]; exact this.2.2.2.1, by rw [h9]; exact this.2.2.2.2.1⟩
    ·unfold InSE
     dsimp only
     rw [hxx]
     refine ⟨ExL.ch n3 h39 (fun q hq hm => by simp at hm; have := hq.1; omega) (fun q hq => hQ q hq.1 (by have := hq.2; omega)), ?_, StL.ch n4 h49 (fun q hq hm => by have h1 := hq.1; simp only [World.size_setCell] at h1; simp at hm; omega) (fun q hq => hQ q (by have h1 := hq.1; simp only [World.size_setCell] at h1; omega) (by have := hq.2; omega)), StL.ch n5 h59 (fun q hq hm => by have h1 := hq.1; simp only [World.size_setCell] at h1; simp at hm; omega) (fun q hq => hQ q (by have h1 := hq.1; simp only [World.size_setCell] at h1; omega) (by have := hq.2; omega)), HX.out.2.1⟩
     show NumL _ w9 a2 k2 (x0.dst.map (Pg.oth x y))
     refine ⟨fun e => ?_, by simpa using hdle, hdmx, by rw [List.length_map]; exact hdfi, ?_⟩
     ·obtain ⟨h1, h2⟩ := HDl.out e
      exact ⟨by rw [h1]; rfl, h2⟩
     ·by_cases hdd : x0.dst = []
      ·exact .inl (by rw [hdd]; rfl)
      ·have h9 := HD.out.1 hdd
       refine .inr ⟨D, od, h9.1, ⟨by omega, by omega, h9.2.2.2.2.2.1, by omega⟩, fun i z hz => ?_⟩
       have h8 := hd.nums i z (by simpa using hz)
       have h7 := h29.cell h8 (by simp; exact fun e => h9.2.2.2.2.2.1 e.symm)
       unfold NumQ
       rw [Nat.mul_one]
       exact h7
   rcases hW1 with ⟨d4, hn1, hW1⟩ | ⟨d4, hn1, hW1⟩
   all_goals
    clear hown hX hE1 hce hDs hn1 hD hq1 hq2 hq9 hIx he1 i1 i2 i3 i4 hat hex hms hc hm he0 hTl hgr
    go_wp2_with (go_at_call 49; refine (HOt.out _ _).mono ?_; rintro e w3 ⟨rfl, hw3⟩; rw [hw3]; clear hw3 w3)
    go_loopw [9] (fun ix w2 => ∃ j : Nat, ix = .int .i64 j ∧ j ≤ x0.dst.length ∧ DsI (Pg.oth x y) W1 w2 D od j x0.dst w.heap.size T l.length c1 (L.set k e1)) (fun ix _ => x0.dst.length - (intOf ix).toNat)
    case atStart => exact ⟨0, rfl, Nat.zero_le _, by rw [← hW1]; exact HDs.out⟩
    case round =>
     obtain ⟨j, rfl, hj, hds⟩ := hrel
     have c3 : wr.cell? ⟨T, k * 6 + 3, none⟩ = some (.slice a2 x0.dst.length k2) := own_cell (j := 3) lenS9 hds.own HE1.out (by rw [HCE.out]; rfl)
     by_cases hjn : j < x0.dst.length
     ·have hjn' : (j : Int) < x0.dst.length := by omega
      have hdd : x0.dst ≠ [] := by intro e; rw [e] at hjn; simp at hjn
      obtain ⟨ha2, _⟩ := HD.out.1 hdd
      have cd : wr.drew.cell? ⟨D, od + j, none⟩ = some (.int .i64 x0.dst[j]) := hds.nums j _ (mid_at _ hjn rfl)
      have fd : wr.drew.frozen? ⟨D, od + j, none⟩ = false := (hds.int hdd).1.fz _
      have c3' : wr.drew.cell? ⟨T, k * 6 + 3, none⟩ = some (.slice a2 x0.dst.length k2) := c3
      have HIn : Hid (DsI (Pg.oth x y) W1 (wr.drew.setCell ⟨D, od + j, none⟩ (.int .i64 (Pg.oth x y x0.dst[j]))) D od (j + 1) x0.dst w.heap.size T l.length c1 (L.set k e1)) := hds.step hjn
      rw [ha2] at c3 c3'
      clear hds
      generalize x0.dst[j] = z at *
      go_wp2_with fail
      refine tail_quiet 18 (by kernel_rfl) (by kernel_rfl) ?_
      generalize wr.drew = W5 at *
      simp only [List.take_succ_cons, List.take_zero, List.drop_succ_cons, List.drop_zero]
      repeat (go_big_quiet_step (first | exact rfl | (exact HOt.out _ _ _)))
      refine wpQuiet_nil ?_
      go_wp2_with fail
      go_roundw
      case rel => exact ⟨j + 1, by go_num, by omega, HIn.out⟩
      case measure => simp [intOf]; omega
     ·obtain rfl : j = x0.dst.length := by omega
      obtain ⟨w2, rfl⟩ : ∃ w2, w2 = wr := ⟨_, rfl⟩
      have HDs2 : Hid (DsI (Pg.oth x y) W1 w2 D od x0.dst.length x0.dst w.heap.size T l.length c1 (L.set k e1)) := hds
      have C2 : Hid (Ch wo w2 [T, D]) := HC12.out _ hds.ch
      have c2 : w2.cell? ⟨T, k * 6 + 2, none⟩ = some (.slice a1' x0.args.length k1) := own_cell (j := 2) lenS9 hds.own HE1.out (by rw [HCE.out]; rfl)
      clear hds
      go_wp2_with (first
       | (go_at_call 50; refine (HCa.out _ C2.out).mono ?_; clear HCa; rintro e w3 ⟨b1, m1, rfl, hN, hg⟩; have N3 : Hid (w2.grownBy w3 none ∧ ExL (Fresh w2 w3) w3 b1 m1 (Pg.swEs (Pg.oth x y) x0.args)) := ⟨hg, hN⟩; have O3 : Hid (w3.ownsRow w.heap.size 51 6 (.slice (some ⟨T, 0, none⟩) l.length c1) l.length ((L.set k e1).flatMap cellsSE)) := HDs2.out.own.kept hg (.inr (by simp [Value.ownBlock])); have y2 : w3.cell? ⟨T, k * 6 + 2, none⟩ = some (.slice a1' x0.args.length k1) := own_cell (j := 2) lenS9 O3.out HE1.out (by rw [HCE.out]; rfl); have y4 : w3.cell? ⟨T, k * 6 + 4, none⟩ = some (.slice a3 x0.a.length k3) := own_cell (j := 4) lenS9 O3.out HE1.out (by rw [HCE.out]; rfl); have f2 : w3.frozen? ⟨T, k * 6 + 2, none⟩ = false := World.ownsRow.frozenAt O3.out _; have C3 : Hid (Ch wo (w3.setCell ⟨T, k * 6 + 2, none⟩ (.slice b1 x0.args.length m1)) [T, D]) := (C2.out.trans (Ch.of hg)).trans (Ch.one (grown_set _ _ _ _) (by simp)); have P3 : Hid ((w3.setCell ⟨T, k * 6 + 2, none⟩ (.slice b1 x0.args.length m1)).ownsRow w.heap.size 51 6 (.slice (some ⟨T, 0, none⟩) l.length c1) l.length ((L.set k e1).flatMap cellsSE |>.set (k * 6 + 2) (.slice b1 x0.args.length m1))) := (World.ownsRow.stored O3.out _ _).1; have u4 : (w3.setCell ⟨T, k * 6 + 2, none⟩ (.slice b1 x0.args.length m1)).cell? ⟨T, k * 6 + 4, none⟩ = some (.slice a3 x0.a.length k3) := (World.cell?_setCell_other _ _ _ _ (by simp)).trans y4; have u5 : (w3.setCell ⟨T, k * 6 + 2, none⟩ (.slice b1 x0.args.length m1)).cell? ⟨T, k * 6 + 5, none⟩ = some (.slice a4 x0.b.length k4) := (World.cell?_setCell_other _ _ _ _ (by simp)).trans (own_cell (j := 5) lenS9 O3.out HE1.out (by rw [HCE.out]; rfl)); have U45 : Hid ((w3.setCell ⟨T, k * 6 + 2, none⟩ (.slice b1 x0.args.length m1)).cell? ⟨T, k * 6 + 4, none⟩ = some (.slice a3 x0.a.length k3) ∧ (w3.setCell ⟨T, k * 6 + 2, none⟩ (.slice b1 x0.args.length m1)).cell? ⟨T, k * 6 + 5, none⟩ = some (.slice a4 x0.b.length k4)) := ⟨u4, u5⟩; clear u4 u5 hN hg)
       | (go_at_call 23; refine (HCb.out _ C3.out).mono ?_; clear HCb; rintro e w4 ⟨b3, m3, rfl, hN, hg⟩; have N4 : Hid ((w3.setCell ⟨T, k * 6 + 2, none⟩ (.slice b1 x0.args.length m1)).grownBy w4 none ∧ StL (Fresh (w3.setCell ⟨T, k * 6 + 2, none⟩ (.slice b1 x0.args.length m1)) w4) w4 b3 m3 (Pg.swSs (Pg.oth x y) x0.a)) := ⟨hg, hN⟩; have O4 : Hid (w4.ownsRow w.heap.size 51 6 (.slice (some ⟨T, 0, none⟩) l.length c1) l.length ((L.set k e1).flatMap cellsSE |>.set (k * 6 + 2) (.slice b1 x0.args.length m1))) := P3.out.kept hg (.inr (by simp [Value.ownBlock])); have v4 : w4.cell? ⟨T, k * 6 + 4, none⟩ = some (.slice a3 x0.a.length k3) := (Ch.of (l := []) hg).cell U45.out.1 (by simp); have v5 : w4.cell? ⟨T, k * 6 + 5, none⟩ = some (.slice a4 x0.b.length k4) := (Ch.of (l := []) hg).cell U45.out.2 (by simp); have f4 : w4.frozen? ⟨T, k * 6 + 4, none⟩ = false := World.ownsRow.frozenAt O4.out _; have C4 : Hid (Ch wo (w4.setCell ⟨T, k * 6 + 4, none⟩ (.slice b3 x0.a.length m3)) [T, D]) := (C3.out.trans (Ch.of hg)).trans (Ch.one (grown_set _ _ _ _) (by simp)); have V5 : Hid ((w4.setCell ⟨T, k * 6 + 4, none⟩ (.slice b3 x0.a.length m3)).cell? ⟨T, k * 6 + 5, none⟩ = some (.slice a4 x0.b.length k4) ∧ (w4.setCell ⟨T, k * 6 + 4, none⟩ (.slice b3 x0.a.length m3)).frozen? ⟨T, k * 6 + 5, none⟩ = false) := ⟨(World.cell?_setCell_other _ _ _ _ (by simp)).trans v5, by rw [World.frozen?_setCell]; exact World.ownsRow.frozenAt O4.out _⟩; have hTw : T < w4.heap.size := (World.ownsRow.lt O4.out T rfl).2; clear hN hg C3)
       | (go_at_call 23; refine (HCc.out _ C4.out).mono ?_; clear HCc; rintro e w5 ⟨b4, m4, rfl, hN, hg⟩; have N5 : Hid ((w4.setCell ⟨T, k * 6 + 4, none⟩ (.slice b3 x0.a.length m3)).grownBy w5 none ∧ StL (Fresh (w4.setCell ⟨T, k * 6 + 4, none⟩ (.slice b3 x0.a.length m3)) w5) w5 b4 m4 (Pg.swSs (Pg.oth x y) x0.b)) := ⟨hg, hN⟩; have r5 : w5.cell? ⟨T, k * 6 + 5, none⟩ = some (.slice a4 x0.b.length k4) := (Ch.of (l := []) hg).cell V5.out.1 (by simp); have f5 : w5.frozen? ⟨T, k * 6 + 5, none⟩ = false := frozenK (l := []) (Ch.of hg) (by simpa using hTw) (by simp) V5.out.2; clear hN hg))
      go_roundw
      case rel =>
       refine ⟨k + 1, L.set k ⟨x0.sw (Pg.oth x y), b1, m1, a2, k2, b3, m3, b4, m4⟩, by go_num, by omega, ?_, fun T' hT' => ?_, ?_⟩
       rotate_left
       ·injection hT' with hT'
        injection hT' with hT'
        subst hT'
        exact HEnd.out _ _ _ _ _ _ _ _ _ _ HDs2.out N3.out.1 N3.out.2 N4.out.1 N4.out.2 N5.out.1 N5.out.2
       ·exact (HEnd.out _ _ _ _ _ _ _ _ _ _ HDs2.out N3.out.1 N3.out.2 N4.out.1 N4.out.2 N5.out.1 N5.out.2).gr
       ·rw [← HMS.out, List.map_set]
      case measure => simp [intOf]; omega
  ·obtain rfl : k = l.length := by omega
   have HG9 : Hid (w.grownBy wo none) := hgr
   have hT1 : StL (Fresh w wo) wo a1 c1 (Pg.swSs (Pg.oth x y) l) := by
    rcases HA.out with ⟨e1, e2, e3⟩ | ⟨T, e1⟩
    ·subst e3
     rw [e1, e2]
     exact ⟨fun _ => ⟨rfl, rfl⟩, Nat.le_refl _, Nat.zero_le _, by simp [Pg.swSs], .inl rfl⟩
    ·have h9 := SwI.row (hc T e1) hfi
     rw [hm, List.take_length, List.drop_length, List.append_nil, ← Pg.swSs_map, ← e1] at h9
     exact h9
   have HT1 : Hid (StL (Fresh w wo) wo a1 c1 (Pg.swSs (Pg.oth x y) l)) := hT1
   clear hc hT1 hm
   go_wp2
   go_ret
   exact ⟨a1, c1, rfl, HT1.out, HG9.out⟩
theorem swapped_any {x y : Int} (hx : R64 x) (hy : R64 y) (l : List Pg.St) : SwS x y l := swapped_list hx hy l fun z _ => Pg.St.ind (P := fun z => SwS x y z.a ∧ SwS x y z.b) (fun _ _ _ _ a b ia ib => ⟨swapped_list hx hy a ia, swapped_list hx hy b ib⟩) z
end Go.Proofs.YtpcgkggpmipiaaaGreat
