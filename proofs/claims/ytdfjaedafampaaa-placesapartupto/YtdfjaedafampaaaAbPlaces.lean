/- abi.Places. -/
import Derived.Test.YtdfjaedafampaaaAbPlace
namespace Go.Proofs.Ytdfjaedafampaaa
open Go.RowKit
set_option linter.unusedVariables false

namespace Ab
/-- what Places tells: the error -/
def err (T : Nat → Ty.TyV) (n : Nat) (L : Nat → Int) (m : Nat) (R : Nat → Int) (r : Nat) : Int := if Ty.chk T n ≠ 0 then Ty.chk T n else if okB T n L m = true ∧ okB T n R r = true then 0 else 120
/-- the parameters' places -/
def gA (T : Nat → Ty.TyV) (L : Nat → Int) (m : Nat) : S := go (kw T L) 0 m
/-- the results' -/
def gR (T : Nat → Ty.TyV) (L : Nat → Int) (m : Nat) (R : Nat → Int) (r : Nat) : S := go (kw T R) (gA T L m).s r
/-- what it tells: places of both -/
def lA (T : Nat → Ty.TyV) (n : Nat) (L : Nat → Int) (m : Nat) (R : Nat → Int) (r : Nat) : List Pc := if err T n L m R r = 0 then (gA T L m).l else []
def lR (T : Nat → Ty.TyV) (n : Nat) (L : Nat → Int) (m : Nat) (R : Nat → Int) (r : Nat) : List Pc := if err T n L m R r = 0 then (gR T L m R r).l else []
def sN (T : Nat → Ty.TyV) (n : Nat) (L : Nat → Int) (m : Nat) (R : Nat → Int) (r : Nat) : Int := if err T n L m R r = 0 then ((gR T L m R r).s : Int) else 0
theorem err_ok {T : Nat → Ty.TyV} {n : Nat} {L : Nat → Int} {m : Nat} {R : Nat → Int} {r : Nat} (hc : Ty.chk T n = 0) (h1 : okB T n L m = true) (h2 : okB T n R r = true) : err T n L m R r = 0 := by
  unfold err
  rw [if_neg (by simpa using hc), if_pos ⟨h1, h2⟩]
theorem err_zero {T : Nat → Ty.TyV} {n : Nat} {L : Nat → Int} {m : Nat} {R : Nat → Int} {r : Nat} (h : err T n L m R r = 0) : Ty.chk T n = 0 ∧ okB T n L m = true ∧ okB T n R r = true := by
  unfold err at h
  by_cases hc : Ty.chk T n = 0
  · rw [if_neg (by simpa using hc)] at h
    by_cases h2 : okB T n L m = true ∧ okB T n R r = true
    · exact ⟨hc, h2⟩
    · rw [if_neg h2] at h; cases h
  · rw [if_pos hc] at h
    exact absurd h hc
end Ab
/-- how what Places tells lies -/
structure AsgO (w : World) (base : Nat) (x : Value) (A R : List Ab.Pc) (s : Int) (va vr : Value) : Prop where
  e : x = .agg #[va, vr, .int .i64 s]
  a : OwnP w base va A
  r : OwnP w base vr R
  ap : ∀ q, va.ownBlock = some q → vr.ownBlock ≠ some q
theorem asg0 (w : World) (base : Nat) : AsgO w base (.agg #[.slice none 0 0, .slice none 0 0, .int .i64 0]) [] [] 0 (.slice none 0 0) (.slice none 0 0) := ⟨rfl, ownP_nil _ _, ownP_nil _ _, fun q h => by cases h⟩
/-- a block's whole row -/
def Bk (w : World) (B : Nat) (t : TypeId) (l : List Value) : Prop := w.heap[B]? = some (.cells l.toArray t)
theorem Bk.cell {w : World} {B : Nat} {t : TypeId} {l : List Value} (h : Bk w B t l) {i : Nat} {v : Value} (hv : l[i]? = some v) : w.cell? ⟨B, i, none⟩ = some v := by
  unfold Bk at h
  simp [World.cell?, h, hv]
theorem Bk.frozen {w : World} {B : Nat} {t : TypeId} {l : List Value} (h : Bk w B t l) (i : Nat) : w.frozen? ⟨B, i, none⟩ = false := by
  unfold Bk at h
  simp [World.frozen?, h]
theorem Bk.lt {w : World} {B : Nat} {t : TypeId} {l : List Value} (h : Bk w B t l) : B < w.heap.size := (Array.getElem?_eq_some_iff.1 h).1
theorem Bk.ch {w w' : World} {B : Nat} {t : TypeId} {l : List Value} {m : List Nat} (h : Bk w B t l) (g : Ch w w' m) (hB : B ∉ m) : Bk w' B t l := (g.block B h.lt hB).trans h
theorem Bk.grow {w w' : World} {B : Nat} {t : TypeId} {l : List Value} (h : Bk w B t l) (g : w.grownBy w' none) : Bk w' B t l := h.ch (m := []) (Ch.of g) (by simp)
theorem Bk.new (w : World) (t : TypeId) (l : List Value) : Bk (w.alloc (.cells l.toArray t)) w.heap.size t l := by
  show (w.heap.push _)[w.heap.size]? = _
  simp
theorem Bk.set {w : World} {B : Nat} {t : TypeId} {l : List Value} (h : Bk w B t l) (i : Nat) (v : Value) : Bk (w.setCell ⟨B, i, none⟩ v) B t (l.set i v) := by
  unfold Bk at h ⊢
  simp [World.setCell, Array.getElem?_modify, h]
/-- three cells stored -/
def put3 (w : World) (B : Nat) (x y z : Value) : World := ((w.setCell ⟨B, 0, none⟩ x).setCell ⟨B, 1, none⟩ y).setCell ⟨B, 2, none⟩ z
theorem Bk.put3 {w : World} {B : Nat} {t : TypeId} {a b c : Value} (h : Bk w B t [a, b, c]) (x y z : Value) : Bk (put3 w B x y z) B t [x, y, z] := ((h.set 0 x).set 1 y).set 2 z
theorem ch_put3 (w : World) (B : Nat) (x y z : Value) : Ch w (put3 w B x y z) [B] := ((Ch.one (grown_set _ _ _ _) (by simp)).trans (Ch.one (grown_set _ _ _ _) (by simp))).trans (Ch.one (grown_set _ _ _ _) (by simp))
set_option maxRecDepth 100000 in
set_option maxHeartbeats 8000000 in
theorem places_any {N : Nat} {w : World} {T : Nat → Ty.TyV} {n : Nat} {a : Option Addr} {c : Nat} (h : TysIn N w a n c T) (hN : N ≤ w.heap.size) {M : Nat} {la ra : Option Addr} {m lc r rc : Nat} {L R : Nat → Int} (hL : NumIn M w la m lc L) (hR : NumIn M w ra r rc R) :
    Calls Try.prog 7 #[.slice a n c, .slice la m lc, .slice ra r rc] w fun e w' => ∃ x va vr, e = .returned (.tuple #[x, .int .i64 (Ab.err T n L m R r)]) ∧ AsgO w' w.heap.size x (Ab.lA T n L m R r) (Ab.lR T n L m R r) (Ab.sN T n L m R r) va vr ∧ w.grownBy w' none := by
  have HCk : Hid (∀ W, w.grownBy W none → Calls Try.prog 19 #[.slice a n c] W fun e w' => e = .returned (.int .i64 (Ty.chk T n)) ∧ W.grownBy w' none) := fun W hW => check_any (h.grow hW) (Nat.le_trans hN hW.size)
  have HC1 : Hid (Ty.chk T n = 0 → ∀ W, w.grownBy W none → Calls Try.prog 20 #[.slice a n c, .slice la m lc] W fun e w' => ∃ va vl vc, e = .returned (.tuple #[.slice va vl vc, .bool (Ab.okB T n L m)]) ∧ (Ab.okB T n L m = true → OwnZ w' W.heap.size (.slice va vl vc) (Ab.ks T L m)) ∧ W.grownBy w' none) := fun hc W hW => counts_any (h.grow hW) (Nat.le_trans hN hW.size) hc (hL.grow hW)
  have HC2 : Hid (Ty.chk T n = 0 → ∀ W, w.grownBy W none → Calls Try.prog 20 #[.slice a n c, .slice ra r rc] W fun e w' => ∃ va vl vc, e = .returned (.tuple #[.slice va vl vc, .bool (Ab.okB T n R r)]) ∧ (Ab.okB T n R r = true → OwnZ w' W.heap.size (.slice va vl vc) (Ab.ks T R r)) ∧ W.grownBy w' none) := fun hc W hW => counts_any (h.grow hW) (Nat.le_trans hN hW.size) hc (hR.grow hW)
  have h1 := h.le
  have h2 := hL.le
  have h3 := hR.le
  obtain ⟨B, hB⟩ : ∃ B, w.heap.size = B := ⟨_, rfl⟩
  obtain ⟨w0, hw0⟩ : ∃ w0, w0 = w.alloc (Obj.cells #[.slice none 0 0, .slice none 0 0, .int .i64 0] 31) := ⟨_, rfl⟩
  have hg0 : w.grownBy w0 none := by rw [hw0]; exact World.grownBy_alloc _ _ _
  have hB0 : Bk w0 B 31 [.slice none 0 0, .slice none 0 0, .int .i64 0] := by rw [hw0, ← hB]; exact Bk.new _ _ _
  have HB : Hid (w.heap.size = B) := hB
  have HG0 : Hid (w.grownBy w0 none) := hg0
  have HB0 : Hid (Bk w0 B 31 [.slice none 0 0, .slice none 0 0, .int .i64 0]) := hB0
  have HE : Hid (∀ W, w0.grownBy W none → w.grownBy (put3 W B (.slice none 0 0) (.slice none 0 0) (.int .i64 0)) none) := fun W g => (((Ch.of (l := [B]) (grown_trans hg0 g)).trans (ch_put3 _ _ _ _ _)).nil (fun q hq => by simp at hq; omega))
  have HW0 : Hid (w.alloc (Obj.cells #[.slice none 0 0, .slice none 0 0, .int .i64 0] 31) = w0) := hw0.symm
  clear h hL hR hg0 hB0
  by_cases hc : Ty.chk T n = 0
  · by_cases hok : Ab.okB T n L m = true ∧ Ab.okB T n R r = true
    · have e1 : Ab.err T n L m R r = 0 := Ab.err_ok hc hok.1 hok.2
      have e2 : Ab.lA T n L m R r = (Ab.gA T L m).l := if_pos e1
      have e3 : Ab.lR T n L m R r = (Ab.gR T L m R r).l := if_pos e1
      have e4 : Ab.sN T n L m R r = ((Ab.gR T L m R r).s : Int) := if_pos e1
      rw [e1, e2, e3, e4, hB]
      have D1 := HC1.out hc
      have D2 := HC2.out hc
      rw [hok.1] at D1
      rw [hok.2] at D2
      rw [hc] at HCk
      have E1 : Hid (∀ W, w.grownBy W none → Calls Try.prog 20 #[.slice a n c, .slice la m lc] W fun e w' => ∃ va vc, e = .returned (.tuple #[.slice va m vc, .bool true]) ∧ NumIn w'.heap.size w' va m vc (fun k => ((Ab.kw T L k : Nat) : Int)) ∧ W.grownBy w' none) := fun W hW => (D1 W hW).mono fun e w' ⟨va, vl, vc, he, ho, hg⟩ => by
        obtain ⟨a1, c1, hv, hn⟩ := (ho rfl).numIn (Ab.ks_len T L m) (M := fun k => ((Ab.kw T L k : Nat) : Int)) (fun i hi => by simp [Ab.ks, List.getD_eq_getElem?_getD, hi])
        rw [hv] at he
        exact ⟨a1, c1, he, hn, hg⟩
      have E2 : Hid (∀ W, w.grownBy W none → Calls Try.prog 20 #[.slice a n c, .slice ra r rc] W fun e w' => ∃ va vc, e = .returned (.tuple #[.slice va r vc, .bool true]) ∧ NumIn w'.heap.size w' va r vc (fun k => ((Ab.kw T R k : Nat) : Int)) ∧ W.grownBy w' none) := fun W hW => (D2 W hW).mono fun e w' ⟨va, vl, vc, he, ho, hg⟩ => by
        obtain ⟨a1, c1, hv, hn⟩ := (ho rfl).numIn (Ab.ks_len T R r) (M := fun k => ((Ab.kw T R k : Nat) : Int)) (fun i hi => by simp [Ab.ks, List.getD_eq_getElem?_getD, hi])
        rw [hv] at he
        exact ⟨a1, c1, he, hn, hg⟩
      have hm8 := (Ab.ok_iff.1 hok.1).1
      have hr8 := (Ab.ok_iff.1 hok.2).1
      have k1 := Ab.kw_le hc hok.1
      have k2 := Ab.kw_le hc hok.2
      have hb1 := (Ab.go_b (s0 := 0) k1).2.2.1
      have HK1 : Hid (∀ k, k < m → Ab.kw T L k ≤ 16) := k1
      have HK2 : Hid (∀ k, k < r → Ab.kw T R k ≤ 16) := k2
      have D3 : Hid (∀ N W va vc, NumIn N W va m vc (fun k => ((Ab.kw T L k : Nat) : Int)) → Calls Try.prog 21 #[.slice va m vc, .int .i64 0] W fun e w' => ∃ v, e = .returned (.tuple #[v, .int .i64 ((Ab.gA T L m).s : Int)]) ∧ OwnP w' W.heap.size v (Ab.gA T L m).l ∧ W.grownBy w' none) := fun N W va vc hn => place_any hn hm8 k1 (s0 := 0) (by omega)
      have D4 : Hid (∀ N W va vc, NumIn N W va r vc (fun k => ((Ab.kw T R k : Nat) : Int)) → Calls Try.prog 21 #[.slice va r vc, .int .i64 ((Ab.gA T L m).s : Int)] W fun e w' => ∃ v, e = .returned (.tuple #[v, .int .i64 ((Ab.gR T L m R r).s : Int)]) ∧ OwnP w' W.heap.size v (Ab.gR T L m R r).l ∧ W.grownBy w' none) := fun N W va vc hn => place_any hn hr8 k2 (s0 := (Ab.gA T L m).s) (by show (Ab.go (Ab.kw T L) 0 m).s ≤ 200; omega)
      clear D1 D2 e1 e2 e3 e4 hw0 HC1 HC2 hok hc k1 k2 hb1 HE
      generalize Ab.gA T L m = GA at *
      generalize Ab.gR T L m R r = GR at *
      go_enter Try.func7, Try.ntmps7
      go_wp2_with (first
        | (go_at_call 19; rw [HW0.out]; refine (HCk.out _ HG0.out).mono ?_; rintro e w3 ⟨rfl, hg3⟩; have HG3 : Hid (w0.grownBy w3 none) := hg3; clear hg3)
        | (go_at_call 20; refine (E1.out _ (grown_trans HG0.out HG3.out)).mono ?_; clear E1; rintro e w4 ⟨v1, c1, rfl, hn4, hg4⟩; have HN4 : Hid (NumIn w4.heap.size w4 v1 m c1 (fun k => ((Ab.kw T L k : Nat) : Int))) := hn4; have HG4 : Hid (w0.grownBy w4 none) := grown_trans HG3.out hg4; clear hg4 hn4)
        | (go_at_call 20; refine (E2.out _ (grown_trans HG0.out HG4.out)).mono ?_; rintro e w5 ⟨v2, c2, rfl, hn5, hg5⟩; have HN5 : Hid (NumIn w5.heap.size w5 v2 r c2 (fun k => ((Ab.kw T R k : Nat) : Int))) := hn5; have HN4 : Hid (NumIn w4.heap.size w5 v1 m c1 (fun k => ((Ab.kw T L k : Nat) : Int))) := HN4.out.grow hg5; have HG5 : Hid (w0.grownBy w5 none) := grown_trans HG4.out hg5; clear hg5 hn5)
        | (go_at_call 21; refine (D3.out _ _ v1 c1 (HN4.out.grow (World.grownBy_alloc _ _ _))).mono ?_; clear D3; rintro e w7 ⟨va, rfl, ho7, hg7⟩; have HK7 : Hid (Bk w7 w5.heap.size 31 [.slice none 0 0, .slice none 0 0, .int .i64 0]) := (Bk.new w5 31 [.slice none 0 0, .slice none 0 0, .int .i64 0]).grow hg7; have HC7 : Hid (Ch w5 w7 [w5.heap.size]) := Ch.of (grown_trans (World.grownBy_alloc _ _ _) hg7); have y0 := HK7.out.cell (i := 0) rfl; have y1 := HK7.out.cell (i := 1) rfl; have y2 := HK7.out.cell (i := 2) rfl; have g0 := HK7.out.frozen 0; have g1 := HK7.out.frozen 1; have g2 := HK7.out.frozen 2; obtain ⟨pa, pc, hva, _⟩ := ho7.slice; have ho8 : OwnP w7 (w5.heap.size + 1) va GA.l := (by simpa using ho7); have HO7 : Hid (OwnP w7 (w5.heap.size + 1) va GA.l) := ho8; clear ho8; generalize GA.l.length = gl at hva; subst hva; clear hg7 ho7)
        | (go_at_call 21; refine (D4.out _ _ v2 c2 (HN5.out.ch (l := [w5.heap.size]) ((HC7.out.trans (Ch.one (grown_set _ _ _ _) (by simp))).trans (Ch.one (grown_set _ _ _ _) (by simp))) (by simp))).mono ?_; clear D4; rintro e w9 ⟨vr, rfl, ho9, hg9⟩; have HK9 : Hid (Bk w9 w5.heap.size 31 [.slice pa gl pc, .slice none 0 0, .int .i64 (GA.s : Int)]) := ((HK7.out.set 0 (.slice pa gl pc)).set 2 (.int .i64 (GA.s : Int))).grow hg9; have HC9 : Hid (Ch w5 w9 [w5.heap.size]) := ((HC7.out.trans (Ch.one (grown_set _ _ _ _) (by simp))).trans (Ch.one (grown_set _ _ _ _) (by simp))).trans (Ch.of hg9); have HB9 : Hid (Bk w9 B 31 [.slice none 0 0, .slice none 0 0, .int .i64 0]) := (HB0.out.grow HG5.out).ch HC9.out (by simp; have := (HB0.out.grow HG5.out).lt; omega); clear y0 y1 y2 g0 g1 g2; have y0 := HK9.out.cell (i := 0) rfl; have y1 := HK9.out.cell (i := 1) rfl; have y2 := HK9.out.cell (i := 2) rfl; have g0 := HK9.out.frozen 0; have g1 := HK9.out.frozen 1; have g2 := HK9.out.frozen 2; obtain ⟨qa, qc, hvr, _⟩ := ho9.slice; have ho10 : OwnP w9 w7.heap.size vr GR.l := (by simpa using ho9); have HO9 : Hid (OwnP w9 w7.heap.size vr GR.l) := ho10; have HO79 : Hid (OwnP w9 (w5.heap.size + 1) (.slice pa gl pc) GA.l) := (HO7.out.ch (l := [w5.heap.size]) ((Ch.one (grown_set _ _ _ _) (by simp)).trans (Ch.one (grown_set _ _ _ _) (by simp))) (fun q hq hm => (by have := HO7.out.base q hq; simp at hm; omega))).grow hg9; generalize GR.l.length = gr at hvr; subst hvr; clear hg9 ho9 ho10; obtain ⟨z0, z1, z2, f0, f1, f2⟩ : w9.cell? ⟨B, 0, none⟩ = some (.slice none 0 0) ∧ w9.cell? ⟨B, 1, none⟩ = some (.slice none 0 0) ∧ w9.cell? ⟨B, 2, none⟩ = some (.int .i64 0) ∧ w9.frozen? ⟨B, 0, none⟩ = false ∧ w9.frozen? ⟨B, 1, none⟩ = false ∧ w9.frozen? ⟨B, 2, none⟩ = false := ⟨HB9.out.cell rfl, HB9.out.cell rfl, HB9.out.cell rfl, HB9.out.frozen 0, HB9.out.frozen 1, HB9.out.frozen 2⟩; have hBB : B < w5.heap.size := (HB0.out.grow HG5.out).lt))
      change bodyPost _ _ _ _ _ (put3 ((w9.setCell ⟨w5.heap.size, 1, none⟩ (.slice qa gr qc)).setCell ⟨w5.heap.size, 2, none⟩ (.int .i64 (GR.s : Int))) B (.slice pa gl pc) (.slice qa gr qc) (.int .i64 (GR.s : Int)))
      have c10 : Ch w9 ((w9.setCell ⟨w5.heap.size, 1, none⟩ (.slice qa gr qc)).setCell ⟨w5.heap.size, 2, none⟩ (.int .i64 (GR.s : Int))) [w5.heap.size] := (Ch.one (grown_set _ _ _ _) (by simp)).trans (Ch.one (grown_set _ _ _ _) (by simp))
      obtain ⟨W10, hW10⟩ : ∃ W10, W10 = (w9.setCell ⟨w5.heap.size, 1, none⟩ (.slice qa gr qc)).setCell ⟨w5.heap.size, 2, none⟩ (.int .i64 (GR.s : Int)) := ⟨_, rfl⟩
      rw [← hW10] at c10 ⊢
      have hK := (HB9.out.ch c10 (by simp; omega)).put3 (.slice pa gl pc) (.slice qa gr qc) (.int .i64 (GR.s : Int))
      have q0 := hK.cell (i := 0) rfl
      have q1 := hK.cell (i := 1) rfl
      have q2 := hK.cell (i := 2) rfl
      have c11 : Ch w9 (put3 W10 B (.slice pa gl pc) (.slice qa gr qc) (.int .i64 (GR.s : Int))) [w5.heap.size, B] := (c10.mono (fun k _ hk => by simp at hk ⊢; exact .inl hk)).trans ((ch_put3 _ _ _ _ _).mono (fun k _ hk => by simp at hk ⊢; exact .inr hk))
      have hBw := HB.out
      have c12 := HC9.out.size
      have hs7 := HK7.out.lt
      have hs79 := HO9.out.base
      have hs0 := HG0.out.size
      have hs5 := HG5.out.size
      refine bodyPost_ret (by simp [results, Try.results7, go_sem, q0, q1, q2]; try rfl) rfl ?_
      refine ⟨_, .slice pa gl pc, .slice qa gr qc, rfl, ⟨rfl, ?_, ?_, ?_⟩, ?_⟩
      · exact (HO79.out.ch c11 (fun q hq hm => by have := HO79.out.base q hq; simp at hm; omega)).low (by omega)
      · exact (HO9.out.ch c11 (fun q hq hm => by have := HO9.out.base q hq; simp at hm; omega)).low (by omega)
      · intro q hq hq2
        have h5 := HO9.out.base q hq2
        have h6 := HO7.out.lt q hq
        omega
      · refine ((Ch.of (l := [w5.heap.size, B]) (grown_trans HG0.out HG5.out)).trans ((HC9.out.mono (fun k _ hk => by simp at hk ⊢; exact .inl hk)).trans c11)).nil (fun q hq => by simp at hq; omega)
    · have e1 : Ab.err T n L m R r = 120 := by unfold Ab.err; rw [if_neg (by simpa using hc), if_neg hok]
      have e2 : Ab.lA T n L m R r = [] := if_neg (by rw [e1]; decide)
      have e3 : Ab.lR T n L m R r = [] := if_neg (by rw [e1]; decide)
      have e4 : Ab.sN T n L m R r = 0 := if_neg (by rw [e1]; decide)
      rw [e1, e2, e3, e4, hB]
      have D1 := HC1.out hc
      have D2 := HC2.out hc
      rw [hc] at HCk
      obtain ⟨O1, hO1⟩ : ∃ b, b = Ab.okB T n L m := ⟨_, rfl⟩
      obtain ⟨O2, hO2⟩ : ∃ b, b = Ab.okB T n R r := ⟨_, rfl⟩
      rw [← hO1] at D1 hok
      rw [← hO2] at D2 hok
      have E1 : Hid (∀ W, w.grownBy W none → Calls Try.prog 20 #[.slice a n c, .slice la m lc] W fun e w' => ∃ va vl vc, e = .returned (.tuple #[.slice va vl vc, .bool O1]) ∧ (O1 = true → OwnZ w' W.heap.size (.slice va vl vc) (Ab.ks T L m)) ∧ W.grownBy w' none) := D1
      have E2 : Hid (∀ W, w.grownBy W none → Calls Try.prog 20 #[.slice a n c, .slice ra r rc] W fun e w' => ∃ va vl vc, e = .returned (.tuple #[.slice va vl vc, .bool O2]) ∧ (O2 = true → OwnZ w' W.heap.size (.slice va vl vc) (Ab.ks T R r)) ∧ W.grownBy w' none) := D2
      clear D1 D2 e1 e2 e3 e4 hw0 HC1 HC2 hO1 hO2 hc
      cases O1 <;> cases O2
      case true.true => exact absurd ⟨rfl, rfl⟩ hok
      all_goals
        clear hok
        go_enter Try.func7, Try.ntmps7
        go_wp2_with (first
          | (go_at_call 19; rw [HW0.out]; refine (HCk.out _ HG0.out).mono ?_; rintro e w3 ⟨rfl, hg3⟩; have HG3 : Hid (w0.grownBy w3 none) := hg3; clear hg3)
          | (go_at_call 20; refine (E1.out _ (grown_trans HG0.out HG3.out)).mono ?_; clear E1; rintro e w4 ⟨v1, l1, c1, rfl, _, hg4⟩; have HG4 : Hid (w0.grownBy w4 none) := grown_trans HG3.out hg4; clear hg4)
          | (go_at_call 20; refine (E2.out _ (grown_trans HG0.out HG4.out)).mono ?_; rintro e w5 ⟨v2, l2, c2, rfl, _, hg5⟩; have HG5 : Hid (w0.grownBy w5 none) := grown_trans HG4.out hg5; have HB3 : Hid (Bk w5 B 31 [.slice none 0 0, .slice none 0 0, .int .i64 0]) := HB0.out.grow HG5.out; have z0 := HB3.out.cell (i := 0) rfl; have z1 := HB3.out.cell (i := 1) rfl; have z2 := HB3.out.cell (i := 2) rfl; have f0 := HB3.out.frozen 0; have f1 := HB3.out.frozen 1; have f2 := HB3.out.frozen 2; clear hg5))
        change bodyPost _ _ _ _ _ (put3 w5 B (.slice none 0 0) (.slice none 0 0) (.int .i64 0))
        have q0 := (HB3.out.put3 (.slice none 0 0) (.slice none 0 0) (.int .i64 0)).cell (i := 0) rfl
        have q1 := (HB3.out.put3 (.slice none 0 0) (.slice none 0 0) (.int .i64 0)).cell (i := 1) rfl
        have q2 := (HB3.out.put3 (.slice none 0 0) (.slice none 0 0) (.int .i64 0)).cell (i := 2) rfl
        refine bodyPost_ret (by simp [results, Try.results7, go_sem, q0, q1, q2]; try rfl) rfl ?_
        exact ⟨_, _, _, rfl, asg0 _ _, HE.out w5 HG5.out⟩
  · have e1 : Ab.err T n L m R r = Ty.chk T n := if_pos hc
    have e2 : Ab.lA T n L m R r = [] := if_neg (by rw [e1]; exact hc)
    have e3 : Ab.lR T n L m R r = [] := if_neg (by rw [e1]; exact hc)
    have e4 : Ab.sN T n L m R r = 0 := if_neg (by rw [e1]; exact hc)
    rw [e1, e2, e3, e4, hB]
    have hz : (Ty.chk T n != 0) = true := by simpa using hc
    generalize Ty.chk T n = E at *
    clear e1 e2 e3 e4 hw0 HC1 HC2
    go_enter Try.func7, Try.ntmps7
    go_wp2_with (go_at_call 19; rw [HW0.out]; refine (HCk.out _ HG0.out).mono ?_; rintro e w3 ⟨rfl, hg3⟩; have HB3 : Hid (Bk w3 B 31 [.slice none 0 0, .slice none 0 0, .int .i64 0]) := HB0.out.grow hg3; have z0 := HB3.out.cell (i := 0) rfl; have z1 := HB3.out.cell (i := 1) rfl; have z2 := HB3.out.cell (i := 2) rfl; have f0 := HB3.out.frozen 0; have f1 := HB3.out.frozen 1; have f2 := HB3.out.frozen 2)
    change bodyPost _ _ _ _ _ (put3 w3 B (.slice none 0 0) (.slice none 0 0) (.int .i64 0))
    have q0 := (HB3.out.put3 (.slice none 0 0) (.slice none 0 0) (.int .i64 0)).cell (i := 0) rfl
    have q1 := (HB3.out.put3 (.slice none 0 0) (.slice none 0 0) (.int .i64 0)).cell (i := 1) rfl
    have q2 := (HB3.out.put3 (.slice none 0 0) (.slice none 0 0) (.int .i64 0)).cell (i := 2) rfl
    refine bodyPost_ret (by simp [results, Try.results7, go_sem, q0, q1, q2]; try rfl) rfl ?_
    exact ⟨_, _, _, rfl, asg0 _ _, HE.out w3 hg3⟩
end Go.Proofs.Ytdfjaedafampaaa
