/- Copies of types, of functions, of a program. -/
import Derived.Test.YtpcgkggpmipiaaaGreatG4
namespace Go.Proofs.YtpcgkggpmipiaaaGreat
set_option maxRecDepth 100000
set_option maxHeartbeats 32000000
open Go.RowKit
set_option linter.unusedVariables false
theorem copyType_any {B : Nat → Prop} {w : World} {x : Pg.Tp} {a1 : Option Addr} {k1 : Nat} (hB : ∀ q, B q → q < w.heap.size)  (h1 : NumL B w a1 k1 x.fields) :
  Calls Tryz.prog 52 #[.agg #[.int .i64 x.kind, .int .i64 x.elem, .int .i64 x.n, .slice a1 x.fields.length k1]] w fun e w' => ∃ a1' k1', e = .returned (.agg #[.int .i64 x.kind, .int .i64 x.elem, .int .i64 x.n, .slice a1' x.fields.length k1']) ∧ (NumL (Fresh w w') w' a1' k1' x.fields) ∧ w.grownBy w' none := by
 obtain ⟨W3, hW3⟩ : ∃ W3, W3 = ((w.alloc (.cells #[.int .i64 x.kind, .int .i64 x.elem, .int .i64 x.n, .slice a1 x.fields.length k1] 61)).alloc (.cells #[.int .i64 0, .int .i64 0, .int .i64 0, .slice none 0 0] 61)).alloc (.cells #[.int .i64 x.kind, .int .i64 x.elem, .int .i64 x.n, .slice a1 x.fields.length k1] 61) := ⟨_, rfl⟩
 have hg3 : w.grownBy W3 none := by rw [hW3]; exact ga (ga (World.grownBy_alloc _ _ _) _) _
 have hs3 : W3.heap.size = w.heap.size + 3 := by rw [hW3]; simp
 have H1 : Hid (∀ W, Ch W3 W [w.heap.size + 2] → Calls Tryz.prog 86 #[.slice a1 x.fields.length k1] W fun e w' => ∃ a' c', e = .returned (.slice a' x.fields.length c') ∧ NumL (Fresh W w') w' a' c' x.fields ∧ W.grownBy w' none) := fun W hc => copyNumL (NumL.ch (NumL.grow h1 hg3) hc (fun q hq => by have := hB q hq; simp; omega) (fun _ h => h)) (fun q hq => Nat.lt_of_lt_of_le (hB q hq) (Nat.le_trans hg3.size hc.size))
 have HG3 : Hid (w.grownBy W3 none) := hg3
 have HW3 : Hid (W3 = ((w.alloc (.cells #[.int .i64 x.kind, .int .i64 x.elem, .int .i64 x.n, .slice a1 x.fields.length k1] 61)).alloc (.cells #[.int .i64 0, .int .i64 0, .int .i64 0, .slice none 0 0] 61)).alloc (.cells #[.int .i64 x.kind, .int .i64 x.elem, .int .i64 x.n, .slice a1 x.fields.length k1] 61)) := hW3
 have K : Hid ((∀ j v, (#[.int .i64 x.kind, .int .i64 x.elem, .int .i64 x.n, .slice a1 x.fields.length k1] : Array Value)[j]? = some v → W3.cell? ⟨w.heap.size + 2, j, none⟩ = some v) ∧ (∀ q, W3.frozen? ⟨w.heap.size + 2, q, none⟩ = false) ∧ (∀ j v, (#[.int .i64 0, .int .i64 0, .int .i64 0, .slice none 0 0] : Array Value)[j]? = some v → W3.cell? ⟨w.heap.size + 1, j, none⟩ = some v) ∧ (∀ q, W3.frozen? ⟨w.heap.size + 1, q, none⟩ = false) ∧ (∀ j v, (#[.int .i64 x.kind, .int .i64 x.elem, .int .i64 x.n, .slice a1 x.fields.length k1] : Array Value)[j]? = some v → W3.cell? ⟨w.heap.size, j, none⟩ = some v)) := by
  rw [hW3]
  refine ⟨fun j v hv => ?_, fun q => ?_, fun j v hv => ?_, fun q => ?_, fun j v hv => ?_⟩
  ·rw [← hv]; exact cells_new _ _ (by simp) _
  ·exact fzs_new _ _ (by simp) _
  ·exact (Ch.of (l := []) (World.grownBy_alloc _ _ _)).cell ((cells_new _ _ (by simp) _).trans hv) (by simp)
  ·exact frozenK (l := []) (Ch.of (World.grownBy_alloc _ _ _)) (by simp) (by simp) (fzs_new _ _ (by simp) _)
  ·exact (Ch.of (l := []) (ga (World.grownBy_alloc _ _ _) _)).cell ((cells_new _ _ rfl _).trans hv) (by simp)
 clear h1 hg3 hW3 hB
 go_enter Tryz.func52, Tryz.ntmps52
 go_wp2_with (first
  | (go_at_call 86; rw [← HW3.out]; refine (H1.out _ (Ch.refl _ _)).mono ?_; rintro e w1 ⟨a1', k1', rfl, hN, hg⟩; have N1 : Hid (NumL (Fresh W3 w1) w1 a1' k1' x.fields ∧ W3.grownBy w1 none) := ⟨hN, hg⟩; have D1 : Hid (Ch W3 w1 [w.heap.size + 2]) := (Ch.refl _ _).trans (Ch.of hg); have hz1 := D1.out.size; have m10 := (Ch.of (l := []) hg).cell (K.out.1 0 _ rfl) (by simp); have m11 := (Ch.of (l := []) hg).cell (K.out.1 1 _ rfl) (by simp); have m12 := (Ch.of (l := []) hg).cell (K.out.1 2 _ rfl) (by simp); have m13 := (Ch.of (l := []) hg).cell (K.out.1 3 _ rfl) (by simp); have Z1 : Hid (∀ q, w1.frozen? ⟨w.heap.size + 2, q, none⟩ = false) := fun q => frozenK (l := []) (Ch.of hg) (by omega) (by simp) (K.out.2.1 q); have z1 := Z1.out 3; have C1 : Hid (Ch W3 (w1.setCell ⟨w.heap.size + 2, 3, none⟩ (.slice a1' x.fields.length k1')) [w.heap.size + 2]) := D1.out.trans (Ch.one (grown_set _ _ _ _) (by simp)); have r0 := D1.out.cell (K.out.2.2.1 0 _ rfl) (by simp); have y0 := frozenK D1.out (by omega) (by simp) (K.out.2.2.2.1 0); have r1 := D1.out.cell (K.out.2.2.1 1 _ rfl) (by simp); have y1 := frozenK D1.out (by omega) (by simp) (K.out.2.2.2.1 1); have r2 := D1.out.cell (K.out.2.2.1 2 _ rfl) (by simp); have y2 := frozenK D1.out (by omega) (by simp) (K.out.2.2.2.1 2); have r3 := D1.out.cell (K.out.2.2.1 3 _ rfl) (by simp); have y3 := frozenK D1.out (by omega) (by simp) (K.out.2.2.2.1 3); clear hN hg H1))
 refine bodyPost_ret (by simp [results, Tryz.results52, go_sem, r0, r1, r2, r3]; try rfl) rfl ?_
 generalize hw9 : World.setCell (World.setCell _ _ _) _ _ = w9
 have c9 : Ch w1 w9 [w.heap.size + 1, w.heap.size + 2] := by
  rw [← hw9]
  exact (((((Ch.one (grown_set _ _ _ _) (by simp)).trans (Ch.one (grown_set _ _ _ _) (by simp))).trans (Ch.one (grown_set _ _ _ _) (by simp))).trans (Ch.one (grown_set _ _ _ _) (by simp))).trans (Ch.one (grown_set _ _ _ _) (by simp)))
 have s9 := c9.size
 have e1 : Ch w1 w9 [w.heap.size + 1, w.heap.size + 2] := c9
 have g1 := N1.out.2.size
 try simp only [World.size_setCell] at g1
 have hz0 : W3.heap.size ≤ W3.heap.size := Nat.le_refl _
 refine ⟨a1', k1', rfl, NumL.ch N1.out.1 e1 (fun q hq => by have h1 := hq.1; have h2 := hz0; (try simp at h1); simp; omega) (fun q hq => ⟨by have h1 := hq.1; have h2 := hz0; (try simp at h1); omega, by have := hq.2; have := e1.size; omega⟩), ?_⟩
 exact ((Ch.of HG3.out).trans (((D1.out).mono (fun q _ hq => by simp at hq; simp [hq])).trans c9)).nil (by simp)
structure TE where
 x : Pg.Tp
 a1 : Option Addr
 k1 : Nat
def cellsTE (e : TE) : List Value := [.int .i64 e.x.kind, .int .i64 e.x.elem, .int .i64 e.x.n, .slice e.a1 e.x.fields.length e.k1]
def InTE (B : Nat → Prop) (W : World) (e : TE) : Prop := NumL B W e.a1 e.k1 e.x.fields
theorem inTE_ch : InCh InTE := fun h hg hl hB => NumL.ch h hg hl hB
theorem info_TE : (Tryz.prog.info? 61).map (fun i => (i.zero, i.size, i.bytes)) = some (some (.agg #[.int .i64 0, .int .i64 0, .int .i64 0, .slice none 0 0]), 4, 48) := by kernel_rfl
theorem wp_appTE {ops : Array Oper} {rest : List Oper} {o : Oper} {a : Act} {Q : Exit → Act → World → Prop} {W : World} (hgd : o.guard = none) (s y : Operand)
  (ho : o.op = .call { callee := .builtin .append, args := #[s, y], argTypes := #[24, 24] }) (base : Nat) (v : Value) (L : List TE) (e : TE) (hs : a.eval s = v) (hown : W.ownsRow base 61 4 v L.length (L.flatMap cellsTE))
  {nb : Nat} (hx : a.eval y = .slice (some ⟨nb, 0, none⟩) 1 1) (hnb : nb = W.heap.size) (hl : (L.length + 1) * 48 ≤ 140737488351232) (hb : base ≤ W.heap.size)
  (h : ∀ v' w', w'.ownsRow base 61 4 v' (L.length + 1) (L.flatMap cellsTE ++ cellsTE e) → W.grownBy w' v.ownBlock → (∀ q, v'.ownBlock = some q → v.ownBlock = some q ∨ W.heap.size ≤ q) → wpList Tryz.prog ops Q rest (a.put o.dst v') w') :
  wpList Tryz.prog ops Q (o :: rest) a (W.alloc (Obj.cells #[.int .i64 e.x.kind, .int .i64 e.x.elem, .int .i64 e.x.n, .slice e.a1 e.x.fields.length e.k1] 61)) := by
 obtain ⟨i, hi, hz0, hz1, hz2⟩ := info_parts info_TE
 exact wpList_app_one (P := Tryz.prog) W hgd s y 24 ho base 61 i _ 4 48 Tryz.underlying24 hi hz0 hz1 hz2 rfl (by decide) v L.length _ hs hown (cellsTE e) hx hnb rfl (by intro u hu; simp [cellsTE] at hu; rcases hu with rfl | rfl | rfl | rfl <;> rfl) (by unfold maxLen; omega) (by omega) hb h
theorem copyTypes_list (l : List Pg.Tp) : ∀ (B : Nat → Prop) (w : World) (a : Option Addr) (c : Nat), (∀ q, B q → q < w.heap.size) → TpL B w a c l →
 Calls Tryz.prog 25 #[.slice a l.length c] w fun e w' => ∃ a' c', e = .returned (.slice a' l.length c') ∧ TpL (Fresh w w') w' a' c' l ∧ w.grownBy w' none := by
 intro B w a c hB h
 have hle := h.le
 have hmx := h.max
 have hfi : l.length * 48 ≤ 140737488351232 := h.fits
 unfold maxLen at hmx
 have HL : Hid (TpL B w a c l) := h
 have HB : Hid (∀ q, B q → q < w.heap.size) := hB
 clear h hB
 go_enter Tryz.func25, Tryz.ntmps25
 go_wp2_with fail
 go_loopw [3, 4] (fun v ix wr => ∃ (k : Nat) (L : List TE), ix = .int .i64 k ∧ k ≤ l.length ∧ L.map TE.x = l.take k ∧ CopG 61 4 cellsTE InTE w wr k v L) (fun _ ix _ => l.length - (intOf ix).toNat)
 case atStart => exact ⟨0, [], rfl, Nat.zero_le _, rfl, CopG.start _ _ _ _ _⟩
 case round =>
  obtain ⟨k, L, rfl, hk, hm, hc⟩ := hrel
  have HC : Hid (CopG 61 4 cellsTE InTE w wr k _ L) := hc
  have HM : Hid (L.map TE.x = l.take k) := hm
  clear hm
  by_cases hkn : k < l.length
  ·have hkn' : (k : Int) < l.length := by omega
   obtain ⟨b, o, rfl, hb, hx⟩ := (TpL.grow HL.out hc.gr).at hkn
   obtain ⟨a1, k1, he⟩ := hx |> id
   have HCp := copyType_any (fun q hq => Nat.lt_of_lt_of_le (HB.out q hq) hc.gr.size) he.f
   have c0 := he.c0
   have c1 := he.c1
   have c2 := he.c2
   have c3 := he.c3
   have hlen := hc.len
   have hsz := hc.gr.size
   clear hx he hc
   have HT : Hid (l.take (k + 1) = l.take k ++ [l[k]]) := List.take_succ_eq_append_getElem hkn
   generalize l[k] = x at *
   have HCp : Hid (Calls Tryz.prog 52 #[.agg #[.int .i64 x.kind, .int .i64 x.elem, .int .i64 x.n, .slice a1 x.fields.length k1]] wr fun e w' => ∃ a1' k1', e = .returned (.agg #[.int .i64 x.kind, .int .i64 x.elem, .int .i64 x.n, .slice a1' x.fields.length k1']) ∧ (NumL (Fresh wr w') w' a1' k1' x.fields) ∧ wr.grownBy w' none) := HCp
   go_wp2_with (first
    | (go_at_call 52; refine HCp.out.mono ?_; rintro e w4 ⟨a1', k1', rfl, hN4, hg4⟩; have H4 : Hid ((NumL (Fresh wr w4) w4 a1' k1' x.fields) ∧ wr.grownBy w4 none) := ⟨hN4, hg4⟩; have hs4 := hg4.size; clear hN4 hg4)
    | (at_builtin; refine wp_appTE rfl _ _ rfl w.heap.size u3 L ⟨x, a1', k1'⟩ rfl (World.ownsRow.kept HC.out.own H4.out.2 (Classical.em _)) rfl rfl (by omega) (by omega) ?_; intro v6 w6 o6 g6 b6))
   go_roundw
   case rel => exact ⟨k + 1, L ++ [⟨x, a1', k1'⟩], by go_num, by omega, by rw [List.map_append, HM.out, HT.out]; rfl, CopG.step (In := InTE) @inTE_ch HC.out H4.out.2 (show InTE (Fresh wr w4) w4 ⟨x, a1', k1'⟩ from H4.out.1) o6 g6 b6⟩
   case measure => simp [intOf]; omega
  ·obtain rfl : k = l.length := by omega
   obtain ⟨a1, c1, rfl, hT1⟩ := CopG.row (cells := cellsTE) (In := InTE) (by' := 48) (fun e => rfl) hc hfi TE.x (TpAt (Fresh w wr) wr) (fun b o e hcc hin => ⟨e.a1, e.k1, hcc 0 _ rfl, hcc 1 _ rfl, hcc 2 _ rfl, hcc 3 _ rfl, hin⟩) (fun e he => @inTE_ch _ _ _ _ [] _ he (Ch.refl _ _) (by simp) (fun q hq => ⟨hq.1, hq.2.1⟩))
   rw [HM.out, List.take_length] at hT1
   have HT1 : Hid (TpL (Fresh w wr) wr a1 c1 l) := hT1
   clear hc hT1
   go_wp2
   go_ret
   exact ⟨a1, c1, rfl, HT1.out, HC.out.gr⟩
theorem copyFunc_int {B : Nat → Prop} {w : World} {x : Pg.Fn} {a1 a2 a3 : Option Addr} {k1 k2 k3 : Nat} (hB : ∀ q, B q → q < w.heap.size)  (h1 : NumL B w a1 k1 x.locals) (h2 : NumL B w a2 k2 x.results) (h3 : StL B w a3 k3 x.body) :
  Calls Tryz.prog 53 #[.agg #[.int .i64 x.params, .slice a1 x.locals.length k1, .slice a2 x.results.length k2, .slice a3 x.body.length k3]] w fun e w' => ∃ a1' k1' a2' k2' a3' k3', e = .returned (.agg #[.int .i64 x.params, .slice a1' x.locals.length k1', .slice a2' x.results.length k2', .slice a3' x.body.length k3']) ∧ (∃ u1, NumO (fun q => Fresh w w' q ∧ q < u1) w' a1' k1' x.locals ∧ NumL (fun q => Fresh w w' q ∧ u1 ≤ q) w' a2' k2' x.results ∧ StL (fun q => Fresh w w' q ∧ u1 ≤ q) w' a3' k3' x.body) ∧ w.grownBy w' none := by
 obtain ⟨W3, hW3⟩ : ∃ W3, W3 = ((w.alloc (.cells #[.int .i64 x.params, .slice a1 x.locals.length k1, .slice a2 x.results.length k2, .slice a3 x.body.length k3] 53)).alloc (.cells #[.int .i64 0, .slice none 0 0, .slice none 0 0, .slice none 0 0] 53)).alloc (.cells #[.int .i64 x.params, .slice a1 x.locals.length k1, .slice a2 x.results.length k2, .slice a3 x.body.length k3] 53) := ⟨_, rfl⟩
 have hg3 : w.grownBy W3 none := by rw [hW3]; exact ga (ga (World.grownBy_alloc _ _ _) _) _
 have hs3 : W3.heap.size = w.heap.size + 3 := by rw [hW3]; simp
 have H1 : Hid (∀ W, Ch W3 W [w.heap.size + 2] → Calls Tryz.prog 86 #[.slice a1 x.locals.length k1] W fun e w' => ∃ a' c', e = .returned (.slice a' x.locals.length c') ∧ NumO (Fresh W w') w' a' c' x.locals ∧ W.grownBy w' none) := fun W hc => copyNumO (NumL.ch (NumL.grow h1 hg3) hc (fun q hq => by have := hB q hq; simp; omega) (fun _ h => h)) (fun q hq => Nat.lt_of_lt_of_le (hB q hq) (Nat.le_trans hg3.size hc.size))
 have H2 : Hid (∀ W, Ch W3 W [w.heap.size + 2] → Calls Tryz.prog 86 #[.slice a2 x.results.length k2] W fun e w' => ∃ a' c', e = .returned (.slice a' x.results.length c') ∧ NumL (Fresh W w') w' a' c' x.results ∧ W.grownBy w' none) := fun W hc => copyNumL (NumL.ch (NumL.grow h2 hg3) hc (fun q hq => by have := hB q hq; simp; omega) (fun _ h => h)) (fun q hq => Nat.lt_of_lt_of_le (hB q hq) (Nat.le_trans hg3.size hc.size))
 have H3 : Hid (∀ W, Ch W3 W [w.heap.size + 2] → Calls Tryz.prog 48 #[.slice a3 x.body.length k3] W fun e w' => ∃ a' c', e = .returned (.slice a' x.body.length c') ∧ StL (Fresh W w') w' a' c' x.body ∧ W.grownBy w' none) := fun W hc => copyStmts_any x.body B W a3 k3 (fun q hq => Nat.lt_of_lt_of_le (hB q hq) (Nat.le_trans hg3.size hc.size)) (StL.ch (StL.grow h3 hg3) hc (fun q hq => by have := hB q hq; simp; omega) (fun _ h => h))
 have HG3 : Hid (w.grownBy W3 none) := hg3
 have HW3 : Hid (W3 = ((w.alloc (.cells #[.int .i64 x.params, .slice a1 x.locals.length k1, .slice a2 x.results.length k2, .slice a3 x.body.length k3] 53)).alloc (.cells #[.int .i64 0, .slice none 0 0, .slice none 0 0, .slice none 0 0] 53)).alloc (.cells #[.int .i64 x.params, .slice a1 x.locals.length k1, .slice a2 x.results.length k2, .slice a3 x.body.length k3] 53)) := hW3
 have K : Hid ((∀ j v, (#[.int .i64 x.params, .slice a1 x.locals.length k1, .slice a2 x.results.length k2, .slice a3 x.body.length k3] : Array Value)[j]? = some v → W3.cell? ⟨w.heap.size + 2, j, none⟩ = some v) ∧ (∀ q, W3.frozen? ⟨w.heap.size + 2, q, none⟩ = false) ∧ (∀ j v, (#[.int .i64 0, .slice none 0 0, .slice none 0 0, .slice none 0 0] : Array Value)[j]? = some v → W3.cell? ⟨w.heap.size + 1, j, none⟩ = some v) ∧ (∀ q, W3.frozen? ⟨w.heap.size + 1, q, none⟩ = false) ∧ (∀ j v, (#[.int .i64 x.params, .slice a1 x.locals.length k1, .slice a2 x.results.length k2, .slice a3 x.body.length k3] : Array Value)[j]? = some v → W3.cell? ⟨w.heap.size, j, none⟩ = some v)) := by
  rw [hW3]
  refine ⟨fun j v hv => ?_, fun q => ?_, fun j v hv => ?_, fun q => ?_, fun j v hv => ?_⟩
  ·rw [← hv]; exact cells_new _ _ (by simp) _
  ·exact fzs_new _ _ (by simp) _
  ·exact (Ch.of (l := []) (World.grownBy_alloc _ _ _)).cell ((cells_new _ _ (by simp) _).trans hv) (by simp)
  ·exact frozenK (l := []) (Ch.of (World.grownBy_alloc _ _ _)) (by simp) (by simp) (fzs_new _ _ (by simp) _)
  ·exact (Ch.of (l := []) (ga (World.grownBy_alloc _ _ _) _)).cell ((cells_new _ _ rfl _).trans hv) (by simp)
 clear h1 h2 h3 hg3 hW3 hB
 go_enter Tryz.func53, Tryz.ntmps53
 go_wp2_with (first
  | (go_at_call 86; rw [← HW3.out]; refine (H1.out _ (Ch.refl _ _)).mono ?_; rintro e w1 ⟨a1', k1', rfl, hN, hg⟩; have N1 : Hid (NumO (Fresh W3 w1) w1 a1' k1' x.locals ∧ W3.grownBy w1 none) := ⟨hN, hg⟩; have D1 : Hid (Ch W3 w1 [w.heap.size + 2]) := (Ch.refl _ _).trans (Ch.of hg); have hz1 := D1.out.size; have m10 := (Ch.of (l := []) hg).cell (K.out.1 0 _ rfl) (by simp); have m11 := (Ch.of (l := []) hg).cell (K.out.1 1 _ rfl) (by simp); have m12 := (Ch.of (l := []) hg).cell (K.out.1 2 _ rfl) (by simp); have m13 := (Ch.of (l := []) hg).cell (K.out.1 3 _ rfl) (by simp); have Z1 : Hid (∀ q, w1.frozen? ⟨w.heap.size + 2, q, none⟩ = false) := fun q => frozenK (l := []) (Ch.of hg) (by omega) (by simp) (K.out.2.1 q); have z1 := Z1.out 1; have b1 := D1.out.cell (K.out.2.2.2.2 2 _ rfl) (by simp); have C1 : Hid (Ch W3 (w1.setCell ⟨w.heap.size + 2, 1, none⟩ (.slice a1' x.locals.length k1')) [w.heap.size + 2]) := D1.out.trans (Ch.one (grown_set _ _ _ _) (by simp)); clear hN hg H1)
  | (go_at_call 86; refine (H2.out _ C1.out).mono ?_; rintro e w2 ⟨a2', k2', rfl, hN, hg⟩; have N2 : Hid (NumL (Fresh (w1.setCell ⟨w.heap.size + 2, 1, none⟩ (.slice a1' x.locals.length k1')) w2) w2 a2' k2' x.results ∧ (w1.setCell ⟨w.heap.size + 2, 1, none⟩ (.slice a1' x.locals.length k1')).grownBy w2 none) := ⟨hN, hg⟩; have D2 : Hid (Ch W3 w2 [w.heap.size + 2]) := C1.out.trans (Ch.of hg); have hz2 := D2.out.size; have m20 := (Ch.of (l := []) hg).cell ((World.cell?_setCell_other _ _ _ _ (by simp)).trans m10) (by simp); have m21 := (Ch.of (l := []) hg).cell (World.cell?_setCell_same _ _ _ m11) (by simp); have m22 := (Ch.of (l := []) hg).cell ((World.cell?_setCell_other _ _ _ _ (by simp)).trans m12) (by simp); have m23 := (Ch.of (l := []) hg).cell ((World.cell?_setCell_other _ _ _ _ (by simp)).trans m13) (by simp); have Z2 : Hid (∀ q, w2.frozen? ⟨w.heap.size + 2, q, none⟩ = false) := fun q => frozenK (l := []) (Ch.of hg) (by simp; omega) (by simp) (by rw [World.frozen?_setCell]; exact Z1.out q); have z2 := Z2.out 2; have b2 := D2.out.cell (K.out.2.2.2.2 3 _ rfl) (by simp); have C2 : Hid (Ch W3 (w2.setCell ⟨w.heap.size + 2, 2, none⟩ (.slice a2' x.results.length k2')) [w.heap.size + 2]) := D2.out.trans (Ch.one (grown_set _ _ _ _) (by simp)); clear hN hg H2)
  | (go_at_call 48; refine (H3.out _ C2.out).mono ?_; rintro e w3 ⟨a3', k3', rfl, hN, hg⟩; have N3 : Hid (StL (Fresh (w2.setCell ⟨w.heap.size + 2, 2, none⟩ (.slice a2' x.results.length k2')) w3) w3 a3' k3' x.body ∧ (w2.setCell ⟨w.heap.size + 2, 2, none⟩ (.slice a2' x.results.length k2')).grownBy w3 none) := ⟨hN, hg⟩; have D3 : Hid (Ch W3 w3 [w.heap.size + 2]) := C2.out.trans (Ch.of hg); have hz3 := D3.out.size; have m30 := (Ch.of (l := []) hg).cell ((World.cell?_setCell_other _ _ _ _ (by simp)).trans m20) (by simp); have m31 := (Ch.of (l := []) hg).cell ((World.cell?_setCell_other _ _ _ _ (by simp)).trans m21) (by simp); have m32 := (Ch.of (l := []) hg).cell (World.cell?_setCell_same _ _ _ m22) (by simp); have m33 := (Ch.of (l := []) hg).cell ((World.cell?_setCell_other _ _ _ _ (by simp)).trans m23) (by simp); have Z3 : Hid (∀ q, w3.frozen? ⟨w.heap.size + 2, q, none⟩ = false) := fun q => frozenK (l := []) (Ch.of hg) (by simp; omega) (by simp) (by rw [World.frozen?_setCell]; exact Z2.out q); have z3 := Z3.out 3; have C3 : Hid (Ch W3 (w3.setCell ⟨w.heap.size + 2, 3, none⟩ (.slice a3' x.body.length k3')) [w.heap.size + 2]) := D3.out.trans (Ch.one (grown_set _ _ _ _) (by simp)); have r0 := D3.out.cell (K.out.2.2.1 0 _ rfl) (by simp); have y0 := frozenK D3.out (by omega) (by simp) (K.out.2.2.2.1 0); have r1 := D3.out.cell (K.out.2.2.1 1 _ rfl) (by simp); have y1 := frozenK D3.out (by omega) (by simp) (K.out.2.2.2.1 1); have r2 := D3.out.cell (K.out.2.2.1 2 _ rfl) (by simp); have y2 := frozenK D3.out (by omega) (by simp) (K.out.2.2.2.1 2); have r3 := D3.out.cell (K.out.2.2.1 3 _ rfl) (by simp); have y3 := frozenK D3.out (by omega) (by simp) (K.out.2.2.2.1 3); clear hN hg H3))
 refine bodyPost_ret (by simp [results, Tryz.results53, go_sem, r0, r1, r2, r3]; try rfl) rfl ?_
 generalize hw9 : World.setCell (World.setCell _ _ _) _ _ = w9
 have c9 : Ch w3 w9 [w.heap.size + 1, w.heap.size + 2] := by
  rw [← hw9]
  exact (((((Ch.one (grown_set _ _ _ _) (by simp)).trans (Ch.one (grown_set _ _ _ _) (by simp))).trans (Ch.one (grown_set _ _ _ _) (by simp))).trans (Ch.one (grown_set _ _ _ _) (by simp))).trans (Ch.one (grown_set _ _ _ _) (by simp)))
 have s9 := c9.size
 have e3 : Ch w3 w9 [w.heap.size + 1, w.heap.size + 2] := c9
 have e2 : Ch w2 w9 [w.heap.size + 1, w.heap.size + 2] := ((Ch.one (grown_set w2 (w.heap.size + 2) 2 (.slice a2' x.results.length k2')) (by simp)).trans (Ch.of N3.out.2)).trans e3
 have e1 : Ch w1 w9 [w.heap.size + 1, w.heap.size + 2] := ((Ch.one (grown_set w1 (w.heap.size + 2) 1 (.slice a1' x.locals.length k1')) (by simp)).trans (Ch.of N2.out.2)).trans e2
 have g1 := N1.out.2.size
 try simp only [World.size_setCell] at g1
 have g2 := N2.out.2.size
 try simp only [World.size_setCell] at g2
 have g3 := N3.out.2.size
 try simp only [World.size_setCell] at g3
 have hz0 : W3.heap.size ≤ W3.heap.size := Nat.le_refl _
 refine ⟨a1', k1', a2', k2', a3', k3', rfl, ⟨w1.heap.size, NumO.ch N1.out.1 e1 (fun q hq => by have h1 := hq.1; have h2 := hz0; (try simp at h1); simp; omega) (fun q hq => ⟨⟨by have h1 := hq.1; have h2 := hz0; (try simp at h1); omega, by have := hq.2; have := e1.size; omega⟩, hq.2⟩), NumL.ch N2.out.1 e2 (fun q hq => by have h1 := hq.1; have h2 := hz1; (try simp at h1); simp; omega) (fun q hq => ⟨⟨by have h1 := hq.1; have h2 := hz1; (try simp at h1); omega, by have := hq.2; have := e2.size; omega⟩, by have h1 := hq.1; (try simp at h1); omega⟩), StL.ch N3.out.1 e3 (fun q hq => by have h1 := hq.1; have h2 := hz2; (try simp at h1); simp; omega) (fun q hq => ⟨⟨by have h1 := hq.1; have h2 := hz2; (try simp at h1); omega, by have := hq.2; have := e3.size; omega⟩, by have h1 := hq.1; (try simp at h1); omega⟩)⟩, ?_⟩
 exact ((Ch.of HG3.out).trans (((D3.out).mono (fun q _ hq => by simp at hq; simp [hq])).trans c9)).nil (by simp)
theorem copyFunc_any {B : Nat → Prop} {w : World} {x : Pg.Fn} {a1 a2 a3 : Option Addr} {k1 k2 k3 : Nat} (hB : ∀ q, B q → q < w.heap.size)  (h1 : NumL B w a1 k1 x.locals) (h2 : NumL B w a2 k2 x.results) (h3 : StL B w a3 k3 x.body) :
  Calls Tryz.prog 53 #[.agg #[.int .i64 x.params, .slice a1 x.locals.length k1, .slice a2 x.results.length k2, .slice a3 x.body.length k3]] w fun e w' => ∃ a1' k1' a2' k2' a3' k3', e = .returned (.agg #[.int .i64 x.params, .slice a1' x.locals.length k1', .slice a2' x.results.length k2', .slice a3' x.body.length k3']) ∧ (NumL (Fresh w w') w' a1' k1' x.locals ∧ NumL (Fresh w w') w' a2' k2' x.results ∧ StL (Fresh w w') w' a3' k3' x.body) ∧ w.grownBy w' none := (copyFunc_int hB h1 h2 h3).mono (by
 rintro e w' ⟨a1', k1', a2', k2', a3', k3', rfl, ⟨u1, p1, p2, p3⟩, hg⟩
 exact ⟨a1', k1', a2', k2', a3', k3', rfl, ⟨NumL.ch (l := []) p1.1 (Ch.refl _ _) (by simp) (fun _ h => h.1), NumL.ch (l := []) p2 (Ch.refl _ _) (by simp) (fun _ h => h.1), StL.ch (l := []) p3 (Ch.refl _ _) (by simp) (fun _ h => h.1)⟩, hg⟩)
structure FE where
 x : Pg.Fn
 a1 : Option Addr
 k1 : Nat
 a2 : Option Addr
 k2 : Nat
 a3 : Option Addr
 k3 : Nat
def cellsFE (e : FE) : List Value := [.int .i64 e.x.params, .slice e.a1 e.x.locals.length e.k1, .slice e.a2 e.x.results.length e.k2, .slice e.a3 e.x.body.length e.k3]
def InFE (B : Nat → Prop) (W : World) (e : FE) : Prop := NumL B W e.a1 e.k1 e.x.locals ∧ NumL B W e.a2 e.k2 e.x.results ∧ StL B W e.a3 e.k3 e.x.body
theorem inFE_ch : InCh InFE := fun h hg hl hB => ⟨NumL.ch h.1 hg hl hB, NumL.ch h.2.1 hg hl hB, StL.ch h.2.2 hg hl hB⟩
theorem info_FE : (Tryz.prog.info? 53).map (fun i => (i.zero, i.size, i.bytes)) = some (some (.agg #[.int .i64 0, .slice none 0 0, .slice none 0 0, .slice none 0 0]), 4, 80) := by kernel_rfl
theorem wp_appFE {ops : Array Oper} {rest : List Oper} {o : Oper} {a : Act} {Q : Exit → Act → World → Prop} {W : World} (hgd : o.guard = none) (s y : Operand)
  (ho : o.op = .call { callee := .builtin .append, args := #[s, y], argTypes := #[25, 25] }) (base : Nat) (v : Value) (L : List FE) (e : FE) (hs : a.eval s = v) (hown : W.ownsRow base 53 4 v L.length (L.flatMap cellsFE))
  {nb : Nat} (hx : a.eval y = .slice (some ⟨nb, 0, none⟩) 1 1) (hnb : nb = W.heap.size) (hl : (L.length + 1) * 80 ≤ 140737488351232) (hb : base ≤ W.heap.size)
  (h : ∀ v' w', w'.ownsRow base 53 4 v' (L.length + 1) (L.flatMap cellsFE ++ cellsFE e) → W.grownBy w' v.ownBlock → (∀ q, v'.ownBlock = some q → v.ownBlock = some q ∨ W.heap.size ≤ q) → wpList Tryz.prog ops Q rest (a.put o.dst v') w') :
  wpList Tryz.prog ops Q (o :: rest) a (W.alloc (Obj.cells #[.int .i64 e.x.params, .slice e.a1 e.x.locals.length e.k1, .slice e.a2 e.x.results.length e.k2, .slice e.a3 e.x.body.length e.k3] 53)) := by
 obtain ⟨i, hi, hz0, hz1, hz2⟩ := info_parts info_FE
 exact wpList_app_one (P := Tryz.prog) W hgd s y 25 ho base 53 i _ 4 80 Tryz.underlying25 hi hz0 hz1 hz2 rfl (by decide) v L.length _ hs hown (cellsFE e) hx hnb rfl (by intro u hu; simp [cellsFE] at hu; rcases hu with rfl | rfl | rfl | rfl <;> rfl) (by unfold maxLen; omega) (by omega) hb h
theorem copyFuncs_list (l : List Pg.Fn) : ∀ (B : Nat → Prop) (w : World) (a : Option Addr) (c : Nat), (∀ q, B q → q < w.heap.size) → FnL B w a c l →
 Calls Tryz.prog 26 #[.slice a l.length c] w fun e w' => ∃ a' c', e = .returned (.slice a' l.length c') ∧ FnL (Fresh w w') w' a' c' l ∧ w.grownBy w' none := by
 intro B w a c hB h
 have hle := h.le
 have hmx := h.max
 have hfi : l.length * 80 ≤ 140737488351232 := h.fits
 unfold maxLen at hmx
 have HL : Hid (FnL B w a c l) := h
 have HB : Hid (∀ q, B q → q < w.heap.size) := hB
 clear h hB
 go_enter Tryz.func26, Tryz.ntmps26
 go_wp2_with fail
 go_loopw [3, 4] (fun v ix wr => ∃ (k : Nat) (L : List FE), ix = .int .i64 k ∧ k ≤ l.length ∧ L.map FE.x = l.take k ∧ CopG 53 4 cellsFE InFE w wr k v L) (fun _ ix _ => l.length - (intOf ix).toNat)
 case atStart => exact ⟨0, [], rfl, Nat.zero_le _, rfl, CopG.start _ _ _ _ _⟩
 case round =>
  obtain ⟨k, L, rfl, hk, hm, hc⟩ := hrel
  have HC : Hid (CopG 53 4 cellsFE InFE w wr k _ L) := hc
  have HM : Hid (L.map FE.x = l.take k) := hm
  clear hm
  by_cases hkn : k < l.length
  ·have hkn' : (k : Int) < l.length := by omega
   obtain ⟨b, o, rfl, hb, hx⟩ := (FnL.grow HL.out hc.gr).at hkn
   obtain ⟨a1, a2, a3, k1, k2, k3, he⟩ := hx |> id
   have HCp := copyFunc_any (fun q hq => Nat.lt_of_lt_of_le (HB.out q hq) hc.gr.size) he.l he.r he.b
   have c0 := he.c0
   have c1 := he.c1
   have c2 := he.c2
   have c3 := he.c3
   have hlen := hc.len
   have hsz := hc.gr.size
   clear hx he hc
   have HT : Hid (l.take (k + 1) = l.take k ++ [l[k]]) := List.take_succ_eq_append_getElem hkn
   generalize l[k] = x at *
   have HCp : Hid (Calls Tryz.prog 53 #[.agg #[.int .i64 x.params, .slice a1 x.locals.length k1, .slice a2 x.results.length k2, .slice a3 x.body.length k3]] wr fun e w' => ∃ a1' k1' a2' k2' a3' k3', e = .returned (.agg #[.int .i64 x.params, .slice a1' x.locals.length k1', .slice a2' x.results.length k2', .slice a3' x.body.length k3']) ∧ (NumL (Fresh wr w') w' a1' k1' x.locals ∧ NumL (Fresh wr w') w' a2' k2' x.results ∧ StL (Fresh wr w') w' a3' k3' x.body) ∧ wr.grownBy w' none) := HCp
   go_wp2_with (first
    | (go_at_call 53; refine HCp.out.mono ?_; rintro e w4 ⟨a1', k1', a2', k2', a3', k3', rfl, hN4, hg4⟩; have H4 : Hid ((NumL (Fresh wr w4) w4 a1' k1' x.locals ∧ NumL (Fresh wr w4) w4 a2' k2' x.results ∧ StL (Fresh wr w4) w4 a3' k3' x.body) ∧ wr.grownBy w4 none) := ⟨hN4, hg4⟩; have hs4 := hg4.size; clear hN4 hg4)
    | (at_builtin; refine wp_appFE rfl _ _ rfl w.heap.size u3 L ⟨x, a1', k1', a2', k2', a3', k3'⟩ rfl (World.ownsRow.kept HC.out.own H4.out.2 (Classical.em _)) rfl rfl (by omega) (by omega) ?_; intro v6 w6 o6 g6 b6))
   go_roundw
   case rel => exact ⟨k + 1, L ++ [⟨x, a1', k1', a2', k2', a3', k3'⟩], by go_num, by omega, by rw [List.map_append, HM.out, HT.out]; rfl, CopG.step (In := InFE) @inFE_ch HC.out H4.out.2 ⟨H4.out.1.1, H4.out.1.2.1, H4.out.1.2.2⟩ o6 g6 b6⟩
   case measure => simp [intOf]; omega
  ·obtain rfl : k = l.length := by omega
   obtain ⟨a1, c1, rfl, hT1⟩ := CopG.row (cells := cellsFE) (In := InFE) (by' := 80) (fun e => rfl) hc hfi FE.x (FnAt (Fresh w wr) wr) (fun b o e hcc hin => ⟨e.a1, e.a2, e.a3, e.k1, e.k2, e.k3, hcc 0 _ rfl, hcc 1 _ rfl, hcc 2 _ rfl, hcc 3 _ rfl, hin.1, hin.2.1, hin.2.2⟩) (fun e he => @inFE_ch _ _ _ _ [] _ he (Ch.refl _ _) (by simp) (fun q hq => ⟨hq.1, hq.2.1⟩))
   rw [HM.out, List.take_length] at hT1
   have HT1 : Hid (FnL (Fresh w wr) wr a1 c1 l) := hT1
   clear hc hT1
   go_wp2
   go_ret
   exact ⟨a1, c1, rfl, HT1.out, HC.out.gr⟩
theorem copyProgram_any {B : Nat → Prop} {w : World} {x : Pg.Pr} {a1 a2 : Option Addr} {k1 k2 : Nat} (hB : ∀ q, B q → q < w.heap.size)  (h1 : TpL B w a1 k1 x.types) (h2 : FnL B w a2 k2 x.funcs) :
  Calls Tryz.prog 9 #[.agg #[.slice a1 x.types.length k1, .slice a2 x.funcs.length k2]] w fun e w' => ∃ a1' k1' a2' k2', e = .returned (.agg #[.slice a1' x.types.length k1', .slice a2' x.funcs.length k2']) ∧ (TpL (Fresh w w') w' a1' k1' x.types ∧ FnL (Fresh w w') w' a2' k2' x.funcs) ∧ w.grownBy w' none := by
 obtain ⟨W3, hW3⟩ : ∃ W3, W3 = ((w.alloc (.cells #[.slice a1 x.types.length k1, .slice a2 x.funcs.length k2] 27)).alloc (.cells #[.slice none 0 0, .slice none 0 0] 27)).alloc (.cells #[.slice a1 x.types.length k1, .slice a2 x.funcs.length k2] 27) := ⟨_, rfl⟩
 have hg3 : w.grownBy W3 none := by rw [hW3]; exact ga (ga (World.grownBy_alloc _ _ _) _) _
 have hs3 : W3.heap.size = w.heap.size + 3 := by rw [hW3]; simp
 have H1 : Hid (∀ W, Ch W3 W [w.heap.size + 2] → Calls Tryz.prog 25 #[.slice a1 x.types.length k1] W fun e w' => ∃ a' c', e = .returned (.slice a' x.types.length c') ∧ TpL (Fresh W w') w' a' c' x.types ∧ W.grownBy w' none) := fun W hc => copyTypes_list x.types B W a1 k1 (fun q hq => Nat.lt_of_lt_of_le (hB q hq) (Nat.le_trans hg3.size hc.size)) (TpL.ch (TpL.grow h1 hg3) hc (fun q hq => by have := hB q hq; simp; omega) (fun _ h => h))
 have H2 : Hid (∀ W, Ch W3 W [w.heap.size + 2] → Calls Tryz.prog 26 #[.slice a2 x.funcs.length k2] W fun e w' => ∃ a' c', e = .returned (.slice a' x.funcs.length c') ∧ FnL (Fresh W w') w' a' c' x.funcs ∧ W.grownBy w' none) := fun W hc => copyFuncs_list x.funcs B W a2 k2 (fun q hq => Nat.lt_of_lt_of_le (hB q hq) (Nat.le_trans hg3.size hc.size)) (FnL.ch (FnL.grow h2 hg3) hc (fun q hq => by have := hB q hq; simp; omega) (fun _ h => h))
 have HG3 : Hid (w.grownBy W3 none) := hg3
 have HW3 : Hid (W3 = ((w.alloc (.cells #[.slice a1 x.types.length k1, .slice a2 x.funcs.length k2] 27)).alloc (.cells #[.slice none 0 0, .slice none 0 0] 27)).alloc (.cells #[.slice a1 x.types.length k1, .slice a2 x.funcs.length k2] 27)) := hW3
 have K : Hid ((∀ j v, (#[.slice a1 x.types.length k1, .slice a2 x.funcs.length k2] : Array Value)[j]? = some v → W3.cell? ⟨w.heap.size + 2, j, none⟩ = some v) ∧ (∀ q, W3.frozen? ⟨w.heap.size + 2, q, none⟩ = false) ∧ (∀ j v, (#[.slice none 0 0, .slice none 0 0] : Array Value)[j]? = some v → W3.cell? ⟨w.heap.size + 1, j, none⟩ = some v) ∧ (∀ q, W3.frozen? ⟨w.heap.size + 1, q, none⟩ = false) ∧ (∀ j v, (#[.slice a1 x.types.length k1, .slice a2 x.funcs.length k2] : Array Value)[j]? = some v → W3.cell? ⟨w.heap.size, j, none⟩ = some v)) := by
  rw [hW3]
  refine ⟨fun j v hv => ?_, fun q => ?_, fun j v hv => ?_, fun q => ?_, fun j v hv => ?_⟩
  ·rw [← hv]; exact cells_new _ _ (by simp) _
  ·exact fzs_new _ _ (by simp) _
  ·exact (Ch.of (l := []) (World.grownBy_alloc _ _ _)).cell ((cells_new _ _ (by simp) _).trans hv) (by simp)
  ·exact frozenK (l := []) (Ch.of (World.grownBy_alloc _ _ _)) (by simp) (by simp) (fzs_new _ _ (by simp) _)
  ·exact (Ch.of (l := []) (ga (World.grownBy_alloc _ _ _) _)).cell ((cells_new _ _ rfl _).trans hv) (by simp)
 clear h1 h2 hg3 hW3 hB
 go_enter Tryz.func9, Tryz.ntmps9
 go_wp2_with (first
  | (go_at_call 25; rw [← HW3.out]; refine (H1.out _ (Ch.refl _ _)).mono ?_; rintro e w1 ⟨a1', k1', rfl, hN, hg⟩; have N1 : Hid (TpL (Fresh W3 w1) w1 a1' k1' x.types ∧ W3.grownBy w1 none) := ⟨hN, hg⟩; have D1 : Hid (Ch W3 w1 [w.heap.size + 2]) := (Ch.refl _ _).trans (Ch.of hg); have hz1 := D1.out.size; have m10 := (Ch.of (l := []) hg).cell (K.out.1 0 _ rfl) (by simp); have m11 := (Ch.of (l := []) hg).cell (K.out.1 1 _ rfl) (by simp); have Z1 : Hid (∀ q, w1.frozen? ⟨w.heap.size + 2, q, none⟩ = false) := fun q => frozenK (l := []) (Ch.of hg) (by omega) (by simp) (K.out.2.1 q); have z1 := Z1.out 0; have b1 := D1.out.cell (K.out.2.2.2.2 1 _ rfl) (by simp); have C1 : Hid (Ch W3 (w1.setCell ⟨w.heap.size + 2, 0, none⟩ (.slice a1' x.types.length k1')) [w.heap.size + 2]) := D1.out.trans (Ch.one (grown_set _ _ _ _) (by simp)); clear hN hg H1)
  | (go_at_call 26; refine (H2.out _ C1.out).mono ?_; rintro e w2 ⟨a2', k2', rfl, hN, hg⟩; have N2 : Hid (FnL (Fresh (w1.setCell ⟨w.heap.size + 2, 0, none⟩ (.slice a1' x.types.length k1')) w2) w2 a2' k2' x.funcs ∧ (w1.setCell ⟨w.heap.size + 2, 0, none⟩ (.slice a1' x.types.length k1')).grownBy w2 none) := ⟨hN, hg⟩; have D2 : Hid (Ch W3 w2 [w.heap.size + 2]) := C1.out.trans (Ch.of hg); have hz2 := D2.out.size; have m20 := (Ch.of (l := []) hg).cell (World.cell?_setCell_same _ _ _ m10) (by simp); have m21 := (Ch.of (l := []) hg).cell ((World.cell?_setCell_other _ _ _ _ (by simp)).trans m11) (by simp); have Z2 : Hid (∀ q, w2.frozen? ⟨w.heap.size + 2, q, none⟩ = false) := fun q => frozenK (l := []) (Ch.of hg) (by simp; omega) (by simp) (by rw [World.frozen?_setCell]; exact Z1.out q); have z2 := Z2.out 1; have C2 : Hid (Ch W3 (w2.setCell ⟨w.heap.size + 2, 1, none⟩ (.slice a2' x.funcs.length k2')) [w.heap.size + 2]) := D2.out.trans (Ch.one (grown_set _ _ _ _) (by simp)); have r0 := D2.out.cell (K.out.2.2.1 0 _ rfl) (by simp); have y0 := frozenK D2.out (by omega) (by simp) (K.out.2.2.2.1 0); have r1 := D2.out.cell (K.out.2.2.1 1 _ rfl) (by simp); have y1 := frozenK D2.out (by omega) (by simp) (K.out.2.2.2.1 1); clear hN hg H2))
 refine bodyPost_ret (by simp [results, Tryz.results9, go_sem, r0, r1]; try rfl) rfl ?_
 generalize hw9 : World.setCell (World.setCell _ _ _) _ _ = w9
 have c9 : Ch w2 w9 [w.heap.size + 1, w.heap.size + 2] := by
  rw [← hw9]
  exact (((Ch.one (grown_set _ _ _ _) (by simp)).trans (Ch.one (grown_set _ _ _ _) (by simp))).trans (Ch.one (grown_set _ _ _ _) (by simp)))
 have s9 := c9.size
 have e2 : Ch w2 w9 [w.heap.size + 1, w.heap.size + 2] := c9
 have e1 : Ch w1 w9 [w.heap.size + 1, w.heap.size + 2] := ((Ch.one (grown_set w1 (w.heap.size + 2) 0 (.slice a1' x.types.length k1')) (by simp)).trans (Ch.of N2.out.2)).trans e2
 have g1 := N1.out.2.size
 try simp only [World.size_setCell] at g1
 have g2 := N2.out.2.size
 try simp only [World.size_setCell] at g2
 have hz0 : W3.heap.size ≤ W3.heap.size := Nat.le_refl _
 refine ⟨a1', k1', a2', k2', rfl, ⟨TpL.ch N1.out.1 e1 (fun q hq => by have h1 := hq.1; have h2 := hz0; (try simp at h1); simp; omega) (fun q hq => ⟨by have h1 := hq.1; have h2 := hz0; (try simp at h1); omega, by have := hq.2; have := e1.size; omega⟩), FnL.ch N2.out.1 e2 (fun q hq => by have h1 := hq.1; have h2 := hz1; (try simp at h1); simp; omega) (fun q hq => ⟨by have h1 := hq.1; have h2 := hz1; (try simp at h1); omega, by have := hq.2; have := e2.size; omega⟩)⟩, ?_⟩
 exact ((Ch.of HG3.out).trans (((D2.out).mono (fun q _ hq => by simp at hq; simp [hq])).trans c9)).nil (by simp)
end Go.Proofs.YtpcgkggpmipiaaaGreat
