/- Copies of programs in SSA form. -/
import Derived.Test.YtbpdggdpgohilaaG6
import Derived.Test.YtbpdggdpgohilaaG17
import Derived.Test.YtbpdggdpgohilaaG18
namespace Go.Proofs.Ytbpdggdpgohilaa
open Go.RowKit
set_option linter.unusedVariables false

theorem BytL.grow {B : Nat → Prop} {W W' : World} {a : Option Addr} {k : Nat} {l : List Int} (h : BytL B W a k l) (g : W.grownBy W' none) : BytL B W' a k l := BytL.ch (l := []) h (Ch.of g) (by simp) (fun _ h => h)
set_option maxRecDepth 100000 in
set_option maxHeartbeats 8000000 in
theorem copyValue_any {B : Nat → Prop} {w : World} {x : Sa.Vl} {a1 : Option Addr} {k1 : Nat} (hB : ∀ q, B q → q < w.heap.size)  (h1 : NumL B w a1 k1 x.args) :
    Calls Try.prog 32 #[.agg #[.int .i64 x.op, .int .i64 x.kind, .slice a1 x.args.length k1, .int .i64 x.n, .int .i64 x.m]] w fun e w' => ∃ a1' k1', e = .returned (.agg #[.int .i64 x.op, .int .i64 x.kind, .slice a1' x.args.length k1', .int .i64 x.n, .int .i64 x.m]) ∧ (NumL (Fresh w w') w' a1' k1' x.args) ∧ w.grownBy w' none := by
  obtain ⟨W3, hW3⟩ : ∃ W3, W3 = ((w.alloc (.cells #[.int .i64 x.op, .int .i64 x.kind, .slice a1 x.args.length k1, .int .i64 x.n, .int .i64 x.m] 48)).alloc (.cells #[.int .i64 0, .int .i64 0, .slice none 0 0, .int .i64 0, .int .i64 0] 48)).alloc (.cells #[.int .i64 x.op, .int .i64 x.kind, .slice a1 x.args.length k1, .int .i64 x.n, .int .i64 x.m] 48) := ⟨_, rfl⟩
  have hg3 : w.grownBy W3 none := by rw [hW3]; exact ga (ga (World.grownBy_alloc _ _ _) _) _
  have hs3 : W3.heap.size = w.heap.size + 3 := by rw [hW3]; simp
  have H1 : Hid (∀ W, Ch W3 W [w.heap.size + 2] → Calls Try.prog 18 #[.slice a1 x.args.length k1] W fun e w' => ∃ a' c', e = .returned (.slice a' x.args.length c') ∧ NumL (Fresh W w') w' a' c' x.args ∧ W.grownBy w' none) := fun W hc => copyNumL (NumL.ch (NumL.grow h1 hg3) hc (fun q hq => by have := hB q hq; simp; omega) (fun _ h => h)) (fun q hq => Nat.lt_of_lt_of_le (hB q hq) (Nat.le_trans hg3.size hc.size))
  have HG3 : Hid (w.grownBy W3 none) := hg3
  have HW3 : Hid (W3 = ((w.alloc (.cells #[.int .i64 x.op, .int .i64 x.kind, .slice a1 x.args.length k1, .int .i64 x.n, .int .i64 x.m] 48)).alloc (.cells #[.int .i64 0, .int .i64 0, .slice none 0 0, .int .i64 0, .int .i64 0] 48)).alloc (.cells #[.int .i64 x.op, .int .i64 x.kind, .slice a1 x.args.length k1, .int .i64 x.n, .int .i64 x.m] 48)) := hW3
  have K : Hid ((∀ j v, (#[.int .i64 x.op, .int .i64 x.kind, .slice a1 x.args.length k1, .int .i64 x.n, .int .i64 x.m] : Array Value)[j]? = some v → W3.cell? ⟨w.heap.size + 2, j, none⟩ = some v) ∧ (∀ q, W3.frozen? ⟨w.heap.size + 2, q, none⟩ = false) ∧ (∀ j v, (#[.int .i64 0, .int .i64 0, .slice none 0 0, .int .i64 0, .int .i64 0] : Array Value)[j]? = some v → W3.cell? ⟨w.heap.size + 1, j, none⟩ = some v) ∧ (∀ q, W3.frozen? ⟨w.heap.size + 1, q, none⟩ = false) ∧ (∀ j v, (#[.int .i64 x.op, .int .i64 x.kind, .slice a1 x.args.length k1, .int .i64 x.n, .int .i64 x.m] : Array Value)[j]? = some v → W3.cell? ⟨w.heap.size, j, none⟩ = some v)) := by
    rw [hW3]
    refine ⟨fun j v hv => ?_, fun q => ?_, fun j v hv => ?_, fun q => ?_, fun j v hv => ?_⟩
    · rw [← hv]; exact cells_new _ _ (by simp) _
    · exact fzs_new _ _ (by simp) _
    · exact (Ch.of (l := []) (World.grownBy_alloc _ _ _)).cell ((cells_new _ _ (by simp) _).trans hv) (by simp)
    · exact frozenK (l := []) (Ch.of (World.grownBy_alloc _ _ _)) (by simp) (by simp) (fzs_new _ _ (by simp) _)
    · exact (Ch.of (l := []) (ga (World.grownBy_alloc _ _ _) _)).cell ((cells_new _ _ rfl _).trans hv) (by simp)
  clear h1 hg3 hW3 hB
  go_enter Try.func32, Try.ntmps32
  go_wp2_with (first
    | (go_at_call 18; rw [← HW3.out]; refine (H1.out _ (Ch.refl _ _)).mono ?_; rintro e w1 ⟨a1', k1', rfl, hN, hg⟩; have N1 : Hid (NumL (Fresh W3 w1) w1 a1' k1' x.args ∧ W3.grownBy w1 none) := ⟨hN, hg⟩; have D1 : Hid (Ch W3 w1 [w.heap.size + 2]) := (Ch.refl _ _).trans (Ch.of hg); have hz1 := D1.out.size; have m10 := (Ch.of (l := []) hg).cell (K.out.1 0 _ rfl) (by simp); have m11 := (Ch.of (l := []) hg).cell (K.out.1 1 _ rfl) (by simp); have m12 := (Ch.of (l := []) hg).cell (K.out.1 2 _ rfl) (by simp); have m13 := (Ch.of (l := []) hg).cell (K.out.1 3 _ rfl) (by simp); have m14 := (Ch.of (l := []) hg).cell (K.out.1 4 _ rfl) (by simp); have Z1 : Hid (∀ q, w1.frozen? ⟨w.heap.size + 2, q, none⟩ = false) := fun q => frozenK (l := []) (Ch.of hg) (by omega) (by simp) (K.out.2.1 q); have z1 := Z1.out 2; have C1 : Hid (Ch W3 (w1.setCell ⟨w.heap.size + 2, 2, none⟩ (.slice a1' x.args.length k1')) [w.heap.size + 2]) := D1.out.trans (Ch.one (grown_set _ _ _ _) (by simp)); have r0 := D1.out.cell (K.out.2.2.1 0 _ rfl) (by simp); have y0 := frozenK D1.out (by omega) (by simp) (K.out.2.2.2.1 0); have r1 := D1.out.cell (K.out.2.2.1 1 _ rfl) (by simp); have y1 := frozenK D1.out (by omega) (by simp) (K.out.2.2.2.1 1); have r2 := D1.out.cell (K.out.2.2.1 2 _ rfl) (by simp); have y2 := frozenK D1.out (by omega) (by simp) (K.out.2.2.2.1 2); have r3 := D1.out.cell (K.out.2.2.1 3 _ rfl) (by simp); have y3 := frozenK D1.out (by omega) (by simp) (K.out.2.2.2.1 3); have r4 := D1.out.cell (K.out.2.2.1 4 _ rfl) (by simp); have y4 := frozenK D1.out (by omega) (by simp) (K.out.2.2.2.1 4); clear hN hg H1))
  refine bodyPost_ret (by simp [results, Try.results32, go_sem, r0, r1, r2, r3, r4]; try rfl) rfl ?_
  generalize hw9 : World.setCell (World.setCell _ _ _) _ _ = w9
  have c9 : Ch w1 w9 [w.heap.size + 1, w.heap.size + 2] := by
    rw [← hw9]
    exact ((((((Ch.one (grown_set _ _ _ _) (by simp)).trans (Ch.one (grown_set _ _ _ _) (by simp))).trans (Ch.one (grown_set _ _ _ _) (by simp))).trans (Ch.one (grown_set _ _ _ _) (by simp))).trans (Ch.one (grown_set _ _ _ _) (by simp))).trans (Ch.one (grown_set _ _ _ _) (by simp)))
  have s9 := c9.size
  have e1 : Ch w1 w9 [w.heap.size + 1, w.heap.size + 2] := c9
  have g1 := N1.out.2.size
  try simp only [World.size_setCell] at g1
  have hz0 : W3.heap.size ≤ W3.heap.size := Nat.le_refl _
  refine ⟨a1', k1', rfl, NumL.ch N1.out.1 e1 (fun q hq => by have h1 := hq.1; have h2 := hz0; (try simp at h1); simp; omega) (fun q hq => ⟨by have h1 := hq.1; have h2 := hz0; (try simp at h1); omega, by have := hq.2; have := e1.size; omega⟩), ?_⟩
  exact ((Ch.of HG3.out).trans (((D1.out).mono (fun q _ hq => by simp at hq; simp [hq])).trans c9)).nil (by simp)
/-- a value and where its rows lie -/
structure VE where
  x : Sa.Vl
  a1 : Option Addr
  k1 : Nat
def cellsVE (e : VE) : List Value := [.int .i64 e.x.op, .int .i64 e.x.kind, .slice e.a1 e.x.args.length e.k1, .int .i64 e.x.n, .int .i64 e.x.m]
def InVE (B : Nat → Prop) (W : World) (e : VE) : Prop := NumL B W e.a1 e.k1 e.x.args ∧ R64 e.x.n ∧ R64 e.x.m
theorem inVE_ch : InCh InVE := fun h hg hl hB => ⟨NumL.ch h.1 hg hl hB, h.2⟩
theorem info_VE : (Try.prog.info? 48).map (fun i => (i.zero, i.size, i.bytes)) = some (some (.agg #[.int .i64 0, .int .i64 0, .slice none 0 0, .int .i64 0, .int .i64 0]), 5, 56) := by kernel_rfl
theorem wp_appVE {ops : Array Oper} {rest : List Oper} {o : Oper} {a : Act} {Q : Exit → Act → World → Prop} {W : World} (hgd : o.guard = none) (s y : Operand)
    (ho : o.op = .call { callee := .builtin .append, args := #[s, y], argTypes := #[25, 25] }) (base : Nat) (v : Value) (L : List VE) (e : VE) (hs : a.eval s = v) (hown : W.ownsRow base 48 5 v L.length (L.flatMap cellsVE))
    {nb : Nat} (hx : a.eval y = .slice (some ⟨nb, 0, none⟩) 1 1) (hnb : nb = W.heap.size) (hl : (L.length + 1) * 56 ≤ 140737488351232) (hb : base ≤ W.heap.size)
    (h : ∀ v' w', w'.ownsRow base 48 5 v' (L.length + 1) (L.flatMap cellsVE ++ cellsVE e) → W.grownBy w' v.ownBlock → (∀ q, v'.ownBlock = some q → v.ownBlock = some q ∨ W.heap.size ≤ q) → wpList Try.prog ops Q rest (a.put o.dst v') w') :
    wpList Try.prog ops Q (o :: rest) a (W.alloc (Obj.cells #[.int .i64 e.x.op, .int .i64 e.x.kind, .slice e.a1 e.x.args.length e.k1, .int .i64 e.x.n, .int .i64 e.x.m] 48)) := by
  obtain ⟨i, hi, hz0, hz1, hz2⟩ := info_parts info_VE
  exact wpList_app_one (P := Try.prog) W hgd s y 25 ho base 48 i _ 5 56 Try.underlying25 hi hz0 hz1 hz2 rfl (by decide) v L.length _ hs hown (cellsVE e) hx hnb rfl (by intro u hu; simp [cellsVE] at hu; rcases hu with rfl | rfl | rfl | rfl | rfl <;> rfl) (by unfold maxLen; omega) (by omega) hb h
set_option maxRecDepth 100000 in
set_option maxHeartbeats 8000000 in
theorem copyValues_list (l : List Sa.Vl) : ∀ (B : Nat → Prop) (w : World) (a : Option Addr) (c : Nat), (∀ q, B q → q < w.heap.size) → VlL B w a c l →
  Calls Try.prog 19 #[.slice a l.length c] w fun e w' => ∃ a' c', e = .returned (.slice a' l.length c') ∧ VlL (Fresh w w') w' a' c' l ∧ w.grownBy w' none := by
  intro B w a c hB h
  have hle := h.le
  have hmx := h.max
  have hfi : l.length * 56 ≤ 140737488351232 := h.fits
  unfold maxLen at hmx
  have HL : Hid (VlL B w a c l) := h
  have HB : Hid (∀ q, B q → q < w.heap.size) := hB
  clear h hB
  go_enter Try.func19, Try.ntmps19
  go_wp2_with fail
  go_loopw [3, 4] (fun v ix wr => ∃ (k : Nat) (L : List VE), ix = .int .i64 k ∧ k ≤ l.length ∧ L.map VE.x = l.take k ∧ CopG 48 5 cellsVE InVE w wr k v L) (fun _ ix _ => l.length - (intOf ix).toNat)
  case atStart => exact ⟨0, [], rfl, Nat.zero_le _, rfl, CopG.start _ _ _ _ _⟩
  case round =>
    obtain ⟨k, L, rfl, hk, hm, hc⟩ := hrel
    have HC : Hid (CopG 48 5 cellsVE InVE w wr k _ L) := hc
    have HM : Hid (L.map VE.x = l.take k) := hm
    clear hm
    by_cases hkn : k < l.length
    · have hkn' : (k : Int) < l.length := by omega
      obtain ⟨b, o, rfl, hb, hx⟩ := (VlL.grow HL.out hc.gr).at hkn
      obtain ⟨a1, k1, he⟩ := hx |> id
      have HCp := copyValue_any (fun q hq => Nat.lt_of_lt_of_le (HB.out q hq) hc.gr.size) he.args
      have hR : R64 l[k].n ∧ R64 l[k].m := ⟨he.rn, he.rm⟩
      have c0 := he.c0
      have c1 := he.c1
      have c2 := he.c2
      have c3 := he.c3
      have c4 := he.c4
      have hlen := hc.len
      have hsz := hc.gr.size
      clear hx he hc
      have HT : Hid (l.take (k + 1) = l.take k ++ [l[k]]) := List.take_succ_eq_append_getElem hkn
      generalize l[k] = x at *
      have HR : Hid (R64 x.n ∧ R64 x.m) := hR
      clear hR
      have HCp : Hid (Calls Try.prog 32 #[.agg #[.int .i64 x.op, .int .i64 x.kind, .slice a1 x.args.length k1, .int .i64 x.n, .int .i64 x.m]] wr fun e w' => ∃ a1' k1', e = .returned (.agg #[.int .i64 x.op, .int .i64 x.kind, .slice a1' x.args.length k1', .int .i64 x.n, .int .i64 x.m]) ∧ (NumL (Fresh wr w') w' a1' k1' x.args) ∧ wr.grownBy w' none) := HCp
      go_wp2_with (first
        | (go_at_call 32; refine HCp.out.mono ?_; rintro e w4 ⟨a1', k1', rfl, hN4, hg4⟩; have H4 : Hid ((NumL (Fresh wr w4) w4 a1' k1' x.args) ∧ wr.grownBy w4 none) := ⟨hN4, hg4⟩; have hs4 := hg4.size; clear hN4 hg4)
        | (at_builtin; refine wp_appVE rfl _ _ rfl w.heap.size u3 L ⟨x, a1', k1'⟩ rfl (World.ownsRow.kept HC.out.own H4.out.2 (Classical.em _)) rfl rfl (by omega) (by omega) ?_; intro v6 w6 o6 g6 b6))
      go_roundw
      case rel => exact ⟨k + 1, L ++ [⟨x, a1', k1'⟩], by go_num, by omega, by rw [List.map_append, HM.out, HT.out]; rfl, CopG.step (In := InVE) @inVE_ch HC.out H4.out.2 ⟨H4.out.1, HR.out⟩ o6 g6 b6⟩
      case measure => simp [intOf]; omega
    · obtain rfl : k = l.length := by omega
      obtain ⟨a1, c1, rfl, hT1⟩ := CopG.row (cells := cellsVE) (In := InVE) (by' := 56) (fun e => rfl) hc hfi VE.x (VlAt (Fresh w wr) wr) (fun b o e hcc hin => ⟨e.a1, e.k1, hcc 0 _ rfl, hcc 1 _ rfl, hcc 2 _ rfl, hcc 3 _ rfl, hcc 4 _ rfl, hin.1, hin.2.1, hin.2.2⟩) (fun e he => @inVE_ch _ _ _ _ [] _ he (Ch.refl _ _) (by simp) (fun q hq => ⟨hq.1, hq.2.1⟩))
      rw [HM.out, List.take_length] at hT1
      have HT1 : Hid (VlL (Fresh w wr) wr a1 c1 l) := hT1
      clear hc hT1
      go_wp2
      go_ret
      exact ⟨a1, c1, rfl, HT1.out, HC.out.gr⟩
set_option maxRecDepth 100000 in
set_option maxHeartbeats 8000000 in
theorem copyBlock_any {B : Nat → Prop} {w : World} {x : Sa.Bl} {a1 a2 a3 a4 : Option Addr} {k1 k2 k3 k4 : Nat} (hB : ∀ q, B q → q < w.heap.size)  (h1 : NumL B w a1 k1 x.args) (h2 : NumL B w a2 k2 x.preds) (h3 : NumL B w a3 k3 x.succs) (h4 : NumL B w a4 k4 x.list) :
    Calls Try.prog 33 #[.agg #[.int .i64 x.kind, .int .i64 x.n, .slice a1 x.args.length k1, .slice a2 x.preds.length k2, .slice a3 x.succs.length k3, .slice a4 x.list.length k4]] w fun e w' => ∃ a1' k1' a2' k2' a3' k3' a4' k4', e = .returned (.agg #[.int .i64 x.kind, .int .i64 x.n, .slice a1' x.args.length k1', .slice a2' x.preds.length k2', .slice a3' x.succs.length k3', .slice a4' x.list.length k4']) ∧ (NumL (Fresh w w') w' a1' k1' x.args ∧ NumL (Fresh w w') w' a2' k2' x.preds ∧ NumL (Fresh w w') w' a3' k3' x.succs ∧ NumL (Fresh w w') w' a4' k4' x.list) ∧ w.grownBy w' none := by
  obtain ⟨W3, hW3⟩ : ∃ W3, W3 = ((w.alloc (.cells #[.int .i64 x.kind, .int .i64 x.n, .slice a1 x.args.length k1, .slice a2 x.preds.length k2, .slice a3 x.succs.length k3, .slice a4 x.list.length k4] 41)).alloc (.cells #[.int .i64 0, .int .i64 0, .slice none 0 0, .slice none 0 0, .slice none 0 0, .slice none 0 0] 41)).alloc (.cells #[.int .i64 x.kind, .int .i64 x.n, .slice a1 x.args.length k1, .slice a2 x.preds.length k2, .slice a3 x.succs.length k3, .slice a4 x.list.length k4] 41) := ⟨_, rfl⟩
  have hg3 : w.grownBy W3 none := by rw [hW3]; exact ga (ga (World.grownBy_alloc _ _ _) _) _
  have hs3 : W3.heap.size = w.heap.size + 3 := by rw [hW3]; simp
  have H1 : Hid (∀ W, Ch W3 W [w.heap.size + 2] → Calls Try.prog 18 #[.slice a1 x.args.length k1] W fun e w' => ∃ a' c', e = .returned (.slice a' x.args.length c') ∧ NumL (Fresh W w') w' a' c' x.args ∧ W.grownBy w' none) := fun W hc => copyNumL (NumL.ch (NumL.grow h1 hg3) hc (fun q hq => by have := hB q hq; simp; omega) (fun _ h => h)) (fun q hq => Nat.lt_of_lt_of_le (hB q hq) (Nat.le_trans hg3.size hc.size))
  have H2 : Hid (∀ W, Ch W3 W [w.heap.size + 2] → Calls Try.prog 18 #[.slice a2 x.preds.length k2] W fun e w' => ∃ a' c', e = .returned (.slice a' x.preds.length c') ∧ NumL (Fresh W w') w' a' c' x.preds ∧ W.grownBy w' none) := fun W hc => copyNumL (NumL.ch (NumL.grow h2 hg3) hc (fun q hq => by have := hB q hq; simp; omega) (fun _ h => h)) (fun q hq => Nat.lt_of_lt_of_le (hB q hq) (Nat.le_trans hg3.size hc.size))
  have H3 : Hid (∀ W, Ch W3 W [w.heap.size + 2] → Calls Try.prog 18 #[.slice a3 x.succs.length k3] W fun e w' => ∃ a' c', e = .returned (.slice a' x.succs.length c') ∧ NumL (Fresh W w') w' a' c' x.succs ∧ W.grownBy w' none) := fun W hc => copyNumL (NumL.ch (NumL.grow h3 hg3) hc (fun q hq => by have := hB q hq; simp; omega) (fun _ h => h)) (fun q hq => Nat.lt_of_lt_of_le (hB q hq) (Nat.le_trans hg3.size hc.size))
  have H4 : Hid (∀ W, Ch W3 W [w.heap.size + 2] → Calls Try.prog 18 #[.slice a4 x.list.length k4] W fun e w' => ∃ a' c', e = .returned (.slice a' x.list.length c') ∧ NumL (Fresh W w') w' a' c' x.list ∧ W.grownBy w' none) := fun W hc => copyNumL (NumL.ch (NumL.grow h4 hg3) hc (fun q hq => by have := hB q hq; simp; omega) (fun _ h => h)) (fun q hq => Nat.lt_of_lt_of_le (hB q hq) (Nat.le_trans hg3.size hc.size))
  have HG3 : Hid (w.grownBy W3 none) := hg3
  have HW3 : Hid (W3 = ((w.alloc (.cells #[.int .i64 x.kind, .int .i64 x.n, .slice a1 x.args.length k1, .slice a2 x.preds.length k2, .slice a3 x.succs.length k3, .slice a4 x.list.length k4] 41)).alloc (.cells #[.int .i64 0, .int .i64 0, .slice none 0 0, .slice none 0 0, .slice none 0 0, .slice none 0 0] 41)).alloc (.cells #[.int .i64 x.kind, .int .i64 x.n, .slice a1 x.args.length k1, .slice a2 x.preds.length k2, .slice a3 x.succs.length k3, .slice a4 x.list.length k4] 41)) := hW3
  have K : Hid ((∀ j v, (#[.int .i64 x.kind, .int .i64 x.n, .slice a1 x.args.length k1, .slice a2 x.preds.length k2, .slice a3 x.succs.length k3, .slice a4 x.list.length k4] : Array Value)[j]? = some v → W3.cell? ⟨w.heap.size + 2, j, none⟩ = some v) ∧ (∀ q, W3.frozen? ⟨w.heap.size + 2, q, none⟩ = false) ∧ (∀ j v, (#[.int .i64 0, .int .i64 0, .slice none 0 0, .slice none 0 0, .slice none 0 0, .slice none 0 0] : Array Value)[j]? = some v → W3.cell? ⟨w.heap.size + 1, j, none⟩ = some v) ∧ (∀ q, W3.frozen? ⟨w.heap.size + 1, q, none⟩ = false) ∧ (∀ j v, (#[.int .i64 x.kind, .int .i64 x.n, .slice a1 x.args.length k1, .slice a2 x.preds.length k2, .slice a3 x.succs.length k3, .slice a4 x.list.length k4] : Array Value)[j]? = some v → W3.cell? ⟨w.heap.size, j, none⟩ = some v)) := by
    rw [hW3]
    refine ⟨fun j v hv => ?_, fun q => ?_, fun j v hv => ?_, fun q => ?_, fun j v hv => ?_⟩
    · rw [← hv]; exact cells_new _ _ (by simp) _
    · exact fzs_new _ _ (by simp) _
    · exact (Ch.of (l := []) (World.grownBy_alloc _ _ _)).cell ((cells_new _ _ (by simp) _).trans hv) (by simp)
    · exact frozenK (l := []) (Ch.of (World.grownBy_alloc _ _ _)) (by simp) (by simp) (fzs_new _ _ (by simp) _)
    · exact (Ch.of (l := []) (ga (World.grownBy_alloc _ _ _) _)).cell ((cells_new _ _ rfl _).trans hv) (by simp)
  clear h1 h2 h3 h4 hg3 hW3 hB
  go_enter Try.func33, Try.ntmps33
  go_wp2_with (first
    | (go_at_call 18; rw [← HW3.out]; refine (H1.out _ (Ch.refl _ _)).mono ?_; rintro e w1 ⟨a1', k1', rfl, hN, hg⟩; have N1 : Hid (NumL (Fresh W3 w1) w1 a1' k1' x.args ∧ W3.grownBy w1 none) := ⟨hN, hg⟩; have D1 : Hid (Ch W3 w1 [w.heap.size + 2]) := (Ch.refl _ _).trans (Ch.of hg); have hz1 := D1.out.size; have m10 := (Ch.of (l := []) hg).cell (K.out.1 0 _ rfl) (by simp); have m11 := (Ch.of (l := []) hg).cell (K.out.1 1 _ rfl) (by simp); have m12 := (Ch.of (l := []) hg).cell (K.out.1 2 _ rfl) (by simp); have m13 := (Ch.of (l := []) hg).cell (K.out.1 3 _ rfl) (by simp); have m14 := (Ch.of (l := []) hg).cell (K.out.1 4 _ rfl) (by simp); have m15 := (Ch.of (l := []) hg).cell (K.out.1 5 _ rfl) (by simp); have Z1 : Hid (∀ q, w1.frozen? ⟨w.heap.size + 2, q, none⟩ = false) := fun q => frozenK (l := []) (Ch.of hg) (by omega) (by simp) (K.out.2.1 q); have z1 := Z1.out 2; have b1 := D1.out.cell (K.out.2.2.2.2 3 _ rfl) (by simp); have C1 : Hid (Ch W3 (w1.setCell ⟨w.heap.size + 2, 2, none⟩ (.slice a1' x.args.length k1')) [w.heap.size + 2]) := D1.out.trans (Ch.one (grown_set _ _ _ _) (by simp)); clear hN hg H1)
    | (go_at_call 18; refine (H2.out _ C1.out).mono ?_; rintro e w2 ⟨a2', k2', rfl, hN, hg⟩; have N2 : Hid (NumL (Fresh (w1.setCell ⟨w.heap.size + 2, 2, none⟩ (.slice a1' x.args.length k1')) w2) w2 a2' k2' x.preds ∧ (w1.setCell ⟨w.heap.size + 2, 2, none⟩ (.slice a1' x.args.length k1')).grownBy w2 none) := ⟨hN, hg⟩; have D2 : Hid (Ch W3 w2 [w.heap.size + 2]) := C1.out.trans (Ch.of hg); have hz2 := D2.out.size; have m20 := (Ch.of (l := []) hg).cell ((World.cell?_setCell_other _ _ _ _ (by simp)).trans m10) (by simp); have m21 := (Ch.of (l := []) hg).cell ((World.cell?_setCell_other _ _ _ _ (by simp)).trans m11) (by simp); have m22 := (Ch.of (l := []) hg).cell (World.cell?_setCell_same _ _ _ m12) (by simp); have m23 := (Ch.of (l := []) hg).cell ((World.cell?_setCell_other _ _ _ _ (by simp)).trans m13) (by simp); have m24 := (Ch.of (l := []) hg).cell ((World.cell?_setCell_other _ _ _ _ (by simp)).trans m14) (by simp); have m25 := (Ch.of (l := []) hg).cell ((World.cell?_setCell_other _ _ _ _ (by simp)).trans m15) (by simp); have Z2 : Hid (∀ q, w2.frozen? ⟨w.heap.size + 2, q, none⟩ = false) := fun q => frozenK (l := []) (Ch.of hg) (by simp; omega) (by simp) (by rw [World.frozen?_setCell]; exact Z1.out q); have z2 := Z2.out 3; have b2 := D2.out.cell (K.out.2.2.2.2 4 _ rfl) (by simp); have C2 : Hid (Ch W3 (w2.setCell ⟨w.heap.size + 2, 3, none⟩ (.slice a2' x.preds.length k2')) [w.heap.size + 2]) := D2.out.trans (Ch.one (grown_set _ _ _ _) (by simp)); clear hN hg H2)
    | (go_at_call 18; refine (H3.out _ C2.out).mono ?_; rintro e w3 ⟨a3', k3', rfl, hN, hg⟩; have N3 : Hid (NumL (Fresh (w2.setCell ⟨w.heap.size + 2, 3, none⟩ (.slice a2' x.preds.length k2')) w3) w3 a3' k3' x.succs ∧ (w2.setCell ⟨w.heap.size + 2, 3, none⟩ (.slice a2' x.preds.length k2')).grownBy w3 none) := ⟨hN, hg⟩; have D3 : Hid (Ch W3 w3 [w.heap.size + 2]) := C2.out.trans (Ch.of hg); have hz3 := D3.out.size; have m30 := (Ch.of (l := []) hg).cell ((World.cell?_setCell_other _ _ _ _ (by simp)).trans m20) (by simp); have m31 := (Ch.of (l := []) hg).cell ((World.cell?_setCell_other _ _ _ _ (by simp)).trans m21) (by simp); have m32 := (Ch.of (l := []) hg).cell ((World.cell?_setCell_other _ _ _ _ (by simp)).trans m22) (by simp); have m33 := (Ch.of (l := []) hg).cell (World.cell?_setCell_same _ _ _ m23) (by simp); have m34 := (Ch.of (l := []) hg).cell ((World.cell?_setCell_other _ _ _ _ (by simp)).trans m24) (by simp); have m35 := (Ch.of (l := []) hg).cell ((World.cell?_setCell_other _ _ _ _ (by simp)).trans m25) (by simp); have Z3 : Hid (∀ q, w3.frozen? ⟨w.heap.size + 2, q, none⟩ = false) := fun q => frozenK (l := []) (Ch.of hg) (by simp; omega) (by simp) (by rw [World.frozen?_setCell]; exact Z2.out q); have z3 := Z3.out 4; have b3 := D3.out.cell (K.out.2.2.2.2 5 _ rfl) (by simp); have C3 : Hid (Ch W3 (w3.setCell ⟨w.heap.size + 2, 4, none⟩ (.slice a3' x.succs.length k3')) [w.heap.size + 2]) := D3.out.trans (Ch.one (grown_set _ _ _ _) (by simp)); clear hN hg H3)
    | (go_at_call 18; refine (H4.out _ C3.out).mono ?_; rintro e w4 ⟨a4', k4', rfl, hN, hg⟩; have N4 : Hid (NumL (Fresh (w3.setCell ⟨w.heap.size + 2, 4, none⟩ (.slice a3' x.succs.length k3')) w4) w4 a4' k4' x.list ∧ (w3.setCell ⟨w.heap.size + 2, 4, none⟩ (.slice a3' x.succs.length k3')).grownBy w4 none) := ⟨hN, hg⟩; have D4 : Hid (Ch W3 w4 [w.heap.size + 2]) := C3.out.trans (Ch.of hg); have hz4 := D4.out.size; have m40 := (Ch.of (l := []) hg).cell ((World.cell?_setCell_other _ _ _ _ (by simp)).trans m30) (by simp); have m41 := (Ch.of (l := []) hg).cell ((World.cell?_setCell_other _ _ _ _ (by simp)).trans m31) (by simp); have m42 := (Ch.of (l := []) hg).cell ((World.cell?_setCell_other _ _ _ _ (by simp)).trans m32) (by simp); have m43 := (Ch.of (l := []) hg).cell ((World.cell?_setCell_other _ _ _ _ (by simp)).trans m33) (by simp); have m44 := (Ch.of (l := []) hg).cell (World.cell?_setCell_same _ _ _ m34) (by simp); have m45 := (Ch.of (l := []) hg).cell ((World.cell?_setCell_other _ _ _ _ (by simp)).trans m35) (by simp); have Z4 : Hid (∀ q, w4.frozen? ⟨w.heap.size + 2, q, none⟩ = false) := fun q => frozenK (l := []) (Ch.of hg) (by simp; omega) (by simp) (by rw [World.frozen?_setCell]; exact Z3.out q); have z4 := Z4.out 5; have C4 : Hid (Ch W3 (w4.setCell ⟨w.heap.size + 2, 5, none⟩ (.slice a4' x.list.length k4')) [w.heap.size + 2]) := D4.out.trans (Ch.one (grown_set _ _ _ _) (by simp)); have r0 := D4.out.cell (K.out.2.2.1 0 _ rfl) (by simp); have y0 := frozenK D4.out (by omega) (by simp) (K.out.2.2.2.1 0); have r1 := D4.out.cell (K.out.2.2.1 1 _ rfl) (by simp); have y1 := frozenK D4.out (by omega) (by simp) (K.out.2.2.2.1 1); have r2 := D4.out.cell (K.out.2.2.1 2 _ rfl) (by simp); have y2 := frozenK D4.out (by omega) (by simp) (K.out.2.2.2.1 2); have r3 := D4.out.cell (K.out.2.2.1 3 _ rfl) (by simp); have y3 := frozenK D4.out (by omega) (by simp) (K.out.2.2.2.1 3); have r4 := D4.out.cell (K.out.2.2.1 4 _ rfl) (by simp); have y4 := frozenK D4.out (by omega) (by simp) (K.out.2.2.2.1 4); have r5 := D4.out.cell (K.out.2.2.1 5 _ rfl) (by simp); have y5 := frozenK D4.out (by omega) (by simp) (K.out.2.2.2.1 5); clear hN hg H4))
  refine bodyPost_ret (by simp [results, Try.results33, go_sem, r0, r1, r2, r3, r4, r5]; try rfl) rfl ?_
  generalize hw9 : World.setCell (World.setCell _ _ _) _ _ = w9
  have c9 : Ch w4 w9 [w.heap.size + 1, w.heap.size + 2] := by
    rw [← hw9]
    exact (((((((Ch.one (grown_set _ _ _ _) (by simp)).trans (Ch.one (grown_set _ _ _ _) (by simp))).trans (Ch.one (grown_set _ _ _ _) (by simp))).trans (Ch.one (grown_set _ _ _ _) (by simp))).trans (Ch.one (grown_set _ _ _ _) (by simp))).trans (Ch.one (grown_set _ _ _ _) (by simp))).trans (Ch.one (grown_set _ _ _ _) (by simp)))
  have s9 := c9.size
  have e4 : Ch w4 w9 [w.heap.size + 1, w.heap.size + 2] := c9
  have e3 : Ch w3 w9 [w.heap.size + 1, w.heap.size + 2] := ((Ch.one (grown_set w3 (w.heap.size + 2) 4 (.slice a3' x.succs.length k3')) (by simp)).trans (Ch.of N4.out.2)).trans e4
  have e2 : Ch w2 w9 [w.heap.size + 1, w.heap.size + 2] := ((Ch.one (grown_set w2 (w.heap.size + 2) 3 (.slice a2' x.preds.length k2')) (by simp)).trans (Ch.of N3.out.2)).trans e3
  have e1 : Ch w1 w9 [w.heap.size + 1, w.heap.size + 2] := ((Ch.one (grown_set w1 (w.heap.size + 2) 2 (.slice a1' x.args.length k1')) (by simp)).trans (Ch.of N2.out.2)).trans e2
  have g1 := N1.out.2.size
  try simp only [World.size_setCell] at g1
  have g2 := N2.out.2.size
  try simp only [World.size_setCell] at g2
  have g3 := N3.out.2.size
  try simp only [World.size_setCell] at g3
  have g4 := N4.out.2.size
  try simp only [World.size_setCell] at g4
  have hz0 : W3.heap.size ≤ W3.heap.size := Nat.le_refl _
  refine ⟨a1', k1', a2', k2', a3', k3', a4', k4', rfl, ⟨NumL.ch N1.out.1 e1 (fun q hq => by have h1 := hq.1; have h2 := hz0; (try simp at h1); simp; omega) (fun q hq => ⟨by have h1 := hq.1; have h2 := hz0; (try simp at h1); omega, by have := hq.2; have := e1.size; omega⟩), NumL.ch N2.out.1 e2 (fun q hq => by have h1 := hq.1; have h2 := hz1; (try simp at h1); simp; omega) (fun q hq => ⟨by have h1 := hq.1; have h2 := hz1; (try simp at h1); omega, by have := hq.2; have := e2.size; omega⟩), NumL.ch N3.out.1 e3 (fun q hq => by have h1 := hq.1; have h2 := hz2; (try simp at h1); simp; omega) (fun q hq => ⟨by have h1 := hq.1; have h2 := hz2; (try simp at h1); omega, by have := hq.2; have := e3.size; omega⟩), NumL.ch N4.out.1 e4 (fun q hq => by have h1 := hq.1; have h2 := hz3; (try simp at h1); simp; omega) (fun q hq => ⟨by have h1 := hq.1; have h2 := hz3; (try simp at h1); omega, by have := hq.2; have := e4.size; omega⟩)⟩, ?_⟩
  exact ((Ch.of HG3.out).trans (((D4.out).mono (fun q _ hq => by simp at hq; simp [hq])).trans c9)).nil (by simp)
/-- a block and where its rows lie -/
structure BE where
  x : Sa.Bl
  a1 : Option Addr
  k1 : Nat
  a2 : Option Addr
  k2 : Nat
  a3 : Option Addr
  k3 : Nat
  a4 : Option Addr
  k4 : Nat
def cellsBE (e : BE) : List Value := [.int .i64 e.x.kind, .int .i64 e.x.n, .slice e.a1 e.x.args.length e.k1, .slice e.a2 e.x.preds.length e.k2, .slice e.a3 e.x.succs.length e.k3, .slice e.a4 e.x.list.length e.k4]
def InBE (B : Nat → Prop) (W : World) (e : BE) : Prop := NumL B W e.a1 e.k1 e.x.args ∧ NumL B W e.a2 e.k2 e.x.preds ∧ NumL B W e.a3 e.k3 e.x.succs ∧ NumL B W e.a4 e.k4 e.x.list ∧ R64 e.x.n
theorem inBE_ch : InCh InBE := fun h hg hl hB => ⟨NumL.ch h.1 hg hl hB, NumL.ch h.2.1 hg hl hB, NumL.ch h.2.2.1 hg hl hB, NumL.ch h.2.2.2.1 hg hl hB, h.2.2.2.2⟩
theorem info_BE : (Try.prog.info? 41).map (fun i => (i.zero, i.size, i.bytes)) = some (some (.agg #[.int .i64 0, .int .i64 0, .slice none 0 0, .slice none 0 0, .slice none 0 0, .slice none 0 0]), 6, 112) := by kernel_rfl
theorem wp_appBE {ops : Array Oper} {rest : List Oper} {o : Oper} {a : Act} {Q : Exit → Act → World → Prop} {W : World} (hgd : o.guard = none) (s y : Operand)
    (ho : o.op = .call { callee := .builtin .append, args := #[s, y], argTypes := #[26, 26] }) (base : Nat) (v : Value) (L : List BE) (e : BE) (hs : a.eval s = v) (hown : W.ownsRow base 41 6 v L.length (L.flatMap cellsBE))
    {nb : Nat} (hx : a.eval y = .slice (some ⟨nb, 0, none⟩) 1 1) (hnb : nb = W.heap.size) (hl : (L.length + 1) * 112 ≤ 140737488351232) (hb : base ≤ W.heap.size)
    (h : ∀ v' w', w'.ownsRow base 41 6 v' (L.length + 1) (L.flatMap cellsBE ++ cellsBE e) → W.grownBy w' v.ownBlock → (∀ q, v'.ownBlock = some q → v.ownBlock = some q ∨ W.heap.size ≤ q) → wpList Try.prog ops Q rest (a.put o.dst v') w') :
    wpList Try.prog ops Q (o :: rest) a (W.alloc (Obj.cells #[.int .i64 e.x.kind, .int .i64 e.x.n, .slice e.a1 e.x.args.length e.k1, .slice e.a2 e.x.preds.length e.k2, .slice e.a3 e.x.succs.length e.k3, .slice e.a4 e.x.list.length e.k4] 41)) := by
  obtain ⟨i, hi, hz0, hz1, hz2⟩ := info_parts info_BE
  exact wpList_app_one (P := Try.prog) W hgd s y 26 ho base 41 i _ 6 112 Try.underlying26 hi hz0 hz1 hz2 rfl (by decide) v L.length _ hs hown (cellsBE e) hx hnb rfl (by intro u hu; simp [cellsBE] at hu; rcases hu with rfl | rfl | rfl | rfl | rfl | rfl <;> rfl) (by unfold maxLen; omega) (by omega) hb h
set_option maxRecDepth 100000 in
set_option maxHeartbeats 8000000 in
theorem copyBlocks_list (l : List Sa.Bl) : ∀ (B : Nat → Prop) (w : World) (a : Option Addr) (c : Nat), (∀ q, B q → q < w.heap.size) → BlL B w a c l →
  Calls Try.prog 20 #[.slice a l.length c] w fun e w' => ∃ a' c', e = .returned (.slice a' l.length c') ∧ BlL (Fresh w w') w' a' c' l ∧ w.grownBy w' none := by
  intro B w a c hB h
  have hle := h.le
  have hmx := h.max
  have hfi : l.length * 112 ≤ 140737488351232 := h.fits
  unfold maxLen at hmx
  have HL : Hid (BlL B w a c l) := h
  have HB : Hid (∀ q, B q → q < w.heap.size) := hB
  clear h hB
  go_enter Try.func20, Try.ntmps20
  go_wp2_with fail
  go_loopw [3, 4] (fun v ix wr => ∃ (k : Nat) (L : List BE), ix = .int .i64 k ∧ k ≤ l.length ∧ L.map BE.x = l.take k ∧ CopG 41 6 cellsBE InBE w wr k v L) (fun _ ix _ => l.length - (intOf ix).toNat)
  case atStart => exact ⟨0, [], rfl, Nat.zero_le _, rfl, CopG.start _ _ _ _ _⟩
  case round =>
    obtain ⟨k, L, rfl, hk, hm, hc⟩ := hrel
    have HC : Hid (CopG 41 6 cellsBE InBE w wr k _ L) := hc
    have HM : Hid (L.map BE.x = l.take k) := hm
    clear hm
    by_cases hkn : k < l.length
    · have hkn' : (k : Int) < l.length := by omega
      obtain ⟨b, o, rfl, hb, hx⟩ := (BlL.grow HL.out hc.gr).at hkn
      obtain ⟨a1, a2, a3, a4, k1, k2, k3, k4, he⟩ := hx |> id
      have HCp := copyBlock_any (fun q hq => Nat.lt_of_lt_of_le (HB.out q hq) hc.gr.size) he.args he.preds he.succs he.list
      have hR : R64 l[k].n := he.rn
      have c0 := he.c0
      have c1 := he.c1
      have c2 := he.c2
      have c3 := he.c3
      have c4 := he.c4
      have c5 := he.c5
      have hlen := hc.len
      have hsz := hc.gr.size
      clear hx he hc
      have HT : Hid (l.take (k + 1) = l.take k ++ [l[k]]) := List.take_succ_eq_append_getElem hkn
      generalize l[k] = x at *
      have HR : Hid (R64 x.n) := hR
      clear hR
      have HCp : Hid (Calls Try.prog 33 #[.agg #[.int .i64 x.kind, .int .i64 x.n, .slice a1 x.args.length k1, .slice a2 x.preds.length k2, .slice a3 x.succs.length k3, .slice a4 x.list.length k4]] wr fun e w' => ∃ a1' k1' a2' k2' a3' k3' a4' k4', e = .returned (.agg #[.int .i64 x.kind, .int .i64 x.n, .slice a1' x.args.length k1', .slice a2' x.preds.length k2', .slice a3' x.succs.length k3', .slice a4' x.list.length k4']) ∧ (NumL (Fresh wr w') w' a1' k1' x.args ∧ NumL (Fresh wr w') w' a2' k2' x.preds ∧ NumL (Fresh wr w') w' a3' k3' x.succs ∧ NumL (Fresh wr w') w' a4' k4' x.list) ∧ wr.grownBy w' none) := HCp
      go_wp2_with (first
        | (go_at_call 33; refine HCp.out.mono ?_; rintro e w4 ⟨a1', k1', a2', k2', a3', k3', a4', k4', rfl, hN4, hg4⟩; have H4 : Hid ((NumL (Fresh wr w4) w4 a1' k1' x.args ∧ NumL (Fresh wr w4) w4 a2' k2' x.preds ∧ NumL (Fresh wr w4) w4 a3' k3' x.succs ∧ NumL (Fresh wr w4) w4 a4' k4' x.list) ∧ wr.grownBy w4 none) := ⟨hN4, hg4⟩; have hs4 := hg4.size; clear hN4 hg4)
        | (at_builtin; refine wp_appBE rfl _ _ rfl w.heap.size u3 L ⟨x, a1', k1', a2', k2', a3', k3', a4', k4'⟩ rfl (World.ownsRow.kept HC.out.own H4.out.2 (Classical.em _)) rfl rfl (by omega) (by omega) ?_; intro v6 w6 o6 g6 b6))
      go_roundw
      case rel => exact ⟨k + 1, L ++ [⟨x, a1', k1', a2', k2', a3', k3', a4', k4'⟩], by go_num, by omega, by rw [List.map_append, HM.out, HT.out]; rfl, CopG.step (In := InBE) @inBE_ch HC.out H4.out.2 ⟨H4.out.1.1, H4.out.1.2.1, H4.out.1.2.2.1, H4.out.1.2.2.2, HR.out⟩ o6 g6 b6⟩
      case measure => simp [intOf]; omega
    · obtain rfl : k = l.length := by omega
      obtain ⟨a1, c1, rfl, hT1⟩ := CopG.row (cells := cellsBE) (In := InBE) (by' := 112) (fun e => rfl) hc hfi BE.x (BlAt (Fresh w wr) wr) (fun b o e hcc hin => ⟨e.a1, e.a2, e.a3, e.a4, e.k1, e.k2, e.k3, e.k4, hcc 0 _ rfl, hcc 1 _ rfl, hcc 2 _ rfl, hcc 3 _ rfl, hcc 4 _ rfl, hcc 5 _ rfl, hin.1, hin.2.1, hin.2.2.1, hin.2.2.2.1, hin.2.2.2.2⟩) (fun e he => @inBE_ch _ _ _ _ [] _ he (Ch.refl _ _) (by simp) (fun q hq => ⟨hq.1, hq.2.1⟩))
      rw [HM.out, List.take_length] at hT1
      have HT1 : Hid (BlL (Fresh w wr) wr a1 c1 l) := hT1
      clear hc hT1
      go_wp2
      go_ret
      exact ⟨a1, c1, rfl, HT1.out, HC.out.gr⟩
set_option maxRecDepth 100000 in
set_option maxHeartbeats 8000000 in
theorem copyCode_any {B : Nat → Prop} {w : World} {x : Sa.Cd} {a1 a2 a3 a4 : Option Addr} {k1 k2 k3 k4 : Nat} (hB : ∀ q, B q → q < w.heap.size)  (h1 : NumL B w a1 k1 x.params) (h2 : NumL B w a2 k2 x.results) (h3 : VlL B w a3 k3 x.values) (h4 : BlL B w a4 k4 x.blocks) :
    Calls Try.prog 7 #[.agg #[.slice a1 x.params.length k1, .slice a2 x.results.length k2, .slice a3 x.values.length k3, .slice a4 x.blocks.length k4]] w fun e w' => ∃ a1' k1' a2' k2' a3' k3' a4' k4', e = .returned (.agg #[.slice a1' x.params.length k1', .slice a2' x.results.length k2', .slice a3' x.values.length k3', .slice a4' x.blocks.length k4']) ∧ (NumL (Fresh w w') w' a1' k1' x.params ∧ NumL (Fresh w w') w' a2' k2' x.results ∧ VlL (Fresh w w') w' a3' k3' x.values ∧ BlL (Fresh w w') w' a4' k4' x.blocks) ∧ w.grownBy w' none := by
  obtain ⟨W3, hW3⟩ : ∃ W3, W3 = ((w.alloc (.cells #[.slice a1 x.params.length k1, .slice a2 x.results.length k2, .slice a3 x.values.length k3, .slice a4 x.blocks.length k4] 28)).alloc (.cells #[.slice none 0 0, .slice none 0 0, .slice none 0 0, .slice none 0 0] 28)).alloc (.cells #[.slice a1 x.params.length k1, .slice a2 x.results.length k2, .slice a3 x.values.length k3, .slice a4 x.blocks.length k4] 28) := ⟨_, rfl⟩
  have hg3 : w.grownBy W3 none := by rw [hW3]; exact ga (ga (World.grownBy_alloc _ _ _) _) _
  have hs3 : W3.heap.size = w.heap.size + 3 := by rw [hW3]; simp
  have H1 : Hid (∀ W, Ch W3 W [w.heap.size + 2] → Calls Try.prog 18 #[.slice a1 x.params.length k1] W fun e w' => ∃ a' c', e = .returned (.slice a' x.params.length c') ∧ NumL (Fresh W w') w' a' c' x.params ∧ W.grownBy w' none) := fun W hc => copyNumL (NumL.ch (NumL.grow h1 hg3) hc (fun q hq => by have := hB q hq; simp; omega) (fun _ h => h)) (fun q hq => Nat.lt_of_lt_of_le (hB q hq) (Nat.le_trans hg3.size hc.size))
  have H2 : Hid (∀ W, Ch W3 W [w.heap.size + 2] → Calls Try.prog 18 #[.slice a2 x.results.length k2] W fun e w' => ∃ a' c', e = .returned (.slice a' x.results.length c') ∧ NumL (Fresh W w') w' a' c' x.results ∧ W.grownBy w' none) := fun W hc => copyNumL (NumL.ch (NumL.grow h2 hg3) hc (fun q hq => by have := hB q hq; simp; omega) (fun _ h => h)) (fun q hq => Nat.lt_of_lt_of_le (hB q hq) (Nat.le_trans hg3.size hc.size))
  have H3 : Hid (∀ W, Ch W3 W [w.heap.size + 2] → Calls Try.prog 19 #[.slice a3 x.values.length k3] W fun e w' => ∃ a' c', e = .returned (.slice a' x.values.length c') ∧ VlL (Fresh W w') w' a' c' x.values ∧ W.grownBy w' none) := fun W hc => copyValues_list x.values B W a3 k3 (fun q hq => Nat.lt_of_lt_of_le (hB q hq) (Nat.le_trans hg3.size hc.size)) (VlL.ch (VlL.grow h3 hg3) hc (fun q hq => by have := hB q hq; simp; omega) (fun _ h => h))
  have H4 : Hid (∀ W, Ch W3 W [w.heap.size + 2] → Calls Try.prog 20 #[.slice a4 x.blocks.length k4] W fun e w' => ∃ a' c', e = .returned (.slice a' x.blocks.length c') ∧ BlL (Fresh W w') w' a' c' x.blocks ∧ W.grownBy w' none) := fun W hc => copyBlocks_list x.blocks B W a4 k4 (fun q hq => Nat.lt_of_lt_of_le (hB q hq) (Nat.le_trans hg3.size hc.size)) (BlL.ch (BlL.grow h4 hg3) hc (fun q hq => by have := hB q hq; simp; omega) (fun _ h => h))
  have HG3 : Hid (w.grownBy W3 none) := hg3
  have HW3 : Hid (W3 = ((w.alloc (.cells #[.slice a1 x.params.length k1, .slice a2 x.results.length k2, .slice a3 x.values.length k3, .slice a4 x.blocks.length k4] 28)).alloc (.cells #[.slice none 0 0, .slice none 0 0, .slice none 0 0, .slice none 0 0] 28)).alloc (.cells #[.slice a1 x.params.length k1, .slice a2 x.results.length k2, .slice a3 x.values.length k3, .slice a4 x.blocks.length k4] 28)) := hW3
  have K : Hid ((∀ j v, (#[.slice a1 x.params.length k1, .slice a2 x.results.length k2, .slice a3 x.values.length k3, .slice a4 x.blocks.length k4] : Array Value)[j]? = some v → W3.cell? ⟨w.heap.size + 2, j, none⟩ = some v) ∧ (∀ q, W3.frozen? ⟨w.heap.size + 2, q, none⟩ = false) ∧ (∀ j v, (#[.slice none 0 0, .slice none 0 0, .slice none 0 0, .slice none 0 0] : Array Value)[j]? = some v → W3.cell? ⟨w.heap.size + 1, j, none⟩ = some v) ∧ (∀ q, W3.frozen? ⟨w.heap.size + 1, q, none⟩ = false) ∧ (∀ j v, (#[.slice a1 x.params.length k1, .slice a2 x.results.length k2, .slice a3 x.values.length k3, .slice a4 x.blocks.length k4] : Array Value)[j]? = some v → W3.cell? ⟨w.heap.size, j, none⟩ = some v)) := by
    rw [hW3]
    refine ⟨fun j v hv => ?_, fun q => ?_, fun j v hv => ?_, fun q => ?_, fun j v hv => ?_⟩
    · rw [← hv]; exact cells_new _ _ (by simp) _
    · exact fzs_new _ _ (by simp) _
    · exact (Ch.of (l := []) (World.grownBy_alloc _ _ _)).cell ((cells_new _ _ (by simp) _).trans hv) (by simp)
    · exact frozenK (l := []) (Ch.of (World.grownBy_alloc _ _ _)) (by simp) (by simp) (fzs_new _ _ (by simp) _)
    · exact (Ch.of (l := []) (ga (World.grownBy_alloc _ _ _) _)).cell ((cells_new _ _ rfl _).trans hv) (by simp)
  clear h1 h2 h3 h4 hg3 hW3 hB
  go_enter Try.func7, Try.ntmps7
  go_wp2_with (first
    | (go_at_call 18; rw [← HW3.out]; refine (H1.out _ (Ch.refl _ _)).mono ?_; rintro e w1 ⟨a1', k1', rfl, hN, hg⟩; have N1 : Hid (NumL (Fresh W3 w1) w1 a1' k1' x.params ∧ W3.grownBy w1 none) := ⟨hN, hg⟩; have D1 : Hid (Ch W3 w1 [w.heap.size + 2]) := (Ch.refl _ _).trans (Ch.of hg); have hz1 := D1.out.size; have m10 := (Ch.of (l := []) hg).cell (K.out.1 0 _ rfl) (by simp); have m11 := (Ch.of (l := []) hg).cell (K.out.1 1 _ rfl) (by simp); have m12 := (Ch.of (l := []) hg).cell (K.out.1 2 _ rfl) (by simp); have m13 := (Ch.of (l := []) hg).cell (K.out.1 3 _ rfl) (by simp); have Z1 : Hid (∀ q, w1.frozen? ⟨w.heap.size + 2, q, none⟩ = false) := fun q => frozenK (l := []) (Ch.of hg) (by omega) (by simp) (K.out.2.1 q); have z1 := Z1.out 0; have b1 := D1.out.cell (K.out.2.2.2.2 1 _ rfl) (by simp); have C1 : Hid (Ch W3 (w1.setCell ⟨w.heap.size + 2, 0, none⟩ (.slice a1' x.params.length k1')) [w.heap.size + 2]) := D1.out.trans (Ch.one (grown_set _ _ _ _) (by simp)); clear hN hg H1)
    | (go_at_call 18; refine (H2.out _ C1.out).mono ?_; rintro e w2 ⟨a2', k2', rfl, hN, hg⟩; have N2 : Hid (NumL (Fresh (w1.setCell ⟨w.heap.size + 2, 0, none⟩ (.slice a1' x.params.length k1')) w2) w2 a2' k2' x.results ∧ (w1.setCell ⟨w.heap.size + 2, 0, none⟩ (.slice a1' x.params.length k1')).grownBy w2 none) := ⟨hN, hg⟩; have D2 : Hid (Ch W3 w2 [w.heap.size + 2]) := C1.out.trans (Ch.of hg); have hz2 := D2.out.size; have m20 := (Ch.of (l := []) hg).cell (World.cell?_setCell_same _ _ _ m10) (by simp); have m21 := (Ch.of (l := []) hg).cell ((World.cell?_setCell_other _ _ _ _ (by simp)).trans m11) (by simp); have m22 := (Ch.of (l := []) hg).cell ((World.cell?_setCell_other _ _ _ _ (by simp)).trans m12) (by simp); have m23 := (Ch.of (l := []) hg).cell ((World.cell?_setCell_other _ _ _ _ (by simp)).trans m13) (by simp); have Z2 : Hid (∀ q, w2.frozen? ⟨w.heap.size + 2, q, none⟩ = false) := fun q => frozenK (l := []) (Ch.of hg) (by simp; omega) (by simp) (by rw [World.frozen?_setCell]; exact Z1.out q); have z2 := Z2.out 1; have b2 := D2.out.cell (K.out.2.2.2.2 2 _ rfl) (by simp); have C2 : Hid (Ch W3 (w2.setCell ⟨w.heap.size + 2, 1, none⟩ (.slice a2' x.results.length k2')) [w.heap.size + 2]) := D2.out.trans (Ch.one (grown_set _ _ _ _) (by simp)); clear hN hg H2)
    | (go_at_call 19; refine (H3.out _ C2.out).mono ?_; rintro e w3 ⟨a3', k3', rfl, hN, hg⟩; have N3 : Hid (VlL (Fresh (w2.setCell ⟨w.heap.size + 2, 1, none⟩ (.slice a2' x.results.length k2')) w3) w3 a3' k3' x.values ∧ (w2.setCell ⟨w.heap.size + 2, 1, none⟩ (.slice a2' x.results.length k2')).grownBy w3 none) := ⟨hN, hg⟩; have D3 : Hid (Ch W3 w3 [w.heap.size + 2]) := C2.out.trans (Ch.of hg); have hz3 := D3.out.size; have m30 := (Ch.of (l := []) hg).cell ((World.cell?_setCell_other _ _ _ _ (by simp)).trans m20) (by simp); have m31 := (Ch.of (l := []) hg).cell (World.cell?_setCell_same _ _ _ m21) (by simp); have m32 := (Ch.of (l := []) hg).cell ((World.cell?_setCell_other _ _ _ _ (by simp)).trans m22) (by simp); have m33 := (Ch.of (l := []) hg).cell ((World.cell?_setCell_other _ _ _ _ (by simp)).trans m23) (by simp); have Z3 : Hid (∀ q, w3.frozen? ⟨w.heap.size + 2, q, none⟩ = false) := fun q => frozenK (l := []) (Ch.of hg) (by simp; omega) (by simp) (by rw [World.frozen?_setCell]; exact Z2.out q); have z3 := Z3.out 2; have b3 := D3.out.cell (K.out.2.2.2.2 3 _ rfl) (by simp); have C3 : Hid (Ch W3 (w3.setCell ⟨w.heap.size + 2, 2, none⟩ (.slice a3' x.values.length k3')) [w.heap.size + 2]) := D3.out.trans (Ch.one (grown_set _ _ _ _) (by simp)); clear hN hg H3)
    | (go_at_call 20; refine (H4.out _ C3.out).mono ?_; rintro e w4 ⟨a4', k4', rfl, hN, hg⟩; have N4 : Hid (BlL (Fresh (w3.setCell ⟨w.heap.size + 2, 2, none⟩ (.slice a3' x.values.length k3')) w4) w4 a4' k4' x.blocks ∧ (w3.setCell ⟨w.heap.size + 2, 2, none⟩ (.slice a3' x.values.length k3')).grownBy w4 none) := ⟨hN, hg⟩; have D4 : Hid (Ch W3 w4 [w.heap.size + 2]) := C3.out.trans (Ch.of hg); have hz4 := D4.out.size; have m40 := (Ch.of (l := []) hg).cell ((World.cell?_setCell_other _ _ _ _ (by simp)).trans m30) (by simp); have m41 := (Ch.of (l := []) hg).cell ((World.cell?_setCell_other _ _ _ _ (by simp)).trans m31) (by simp); have m42 := (Ch.of (l := []) hg).cell (World.cell?_setCell_same _ _ _ m32) (by simp); have m43 := (Ch.of (l := []) hg).cell ((World.cell?_setCell_other _ _ _ _ (by simp)).trans m33) (by simp); have Z4 : Hid (∀ q, w4.frozen? ⟨w.heap.size + 2, q, none⟩ = false) := fun q => frozenK (l := []) (Ch.of hg) (by simp; omega) (by simp) (by rw [World.frozen?_setCell]; exact Z3.out q); have z4 := Z4.out 3; have C4 : Hid (Ch W3 (w4.setCell ⟨w.heap.size + 2, 3, none⟩ (.slice a4' x.blocks.length k4')) [w.heap.size + 2]) := D4.out.trans (Ch.one (grown_set _ _ _ _) (by simp)); have r0 := D4.out.cell (K.out.2.2.1 0 _ rfl) (by simp); have y0 := frozenK D4.out (by omega) (by simp) (K.out.2.2.2.1 0); have r1 := D4.out.cell (K.out.2.2.1 1 _ rfl) (by simp); have y1 := frozenK D4.out (by omega) (by simp) (K.out.2.2.2.1 1); have r2 := D4.out.cell (K.out.2.2.1 2 _ rfl) (by simp); have y2 := frozenK D4.out (by omega) (by simp) (K.out.2.2.2.1 2); have r3 := D4.out.cell (K.out.2.2.1 3 _ rfl) (by simp); have y3 := frozenK D4.out (by omega) (by simp) (K.out.2.2.2.1 3); clear hN hg H4))
  refine bodyPost_ret (by simp [results, Try.results7, go_sem, r0, r1, r2, r3]; try rfl) rfl ?_
  generalize hw9 : World.setCell (World.setCell _ _ _) _ _ = w9
  have c9 : Ch w4 w9 [w.heap.size + 1, w.heap.size + 2] := by
    rw [← hw9]
    exact (((((Ch.one (grown_set _ _ _ _) (by simp)).trans (Ch.one (grown_set _ _ _ _) (by simp))).trans (Ch.one (grown_set _ _ _ _) (by simp))).trans (Ch.one (grown_set _ _ _ _) (by simp))).trans (Ch.one (grown_set _ _ _ _) (by simp)))
  have s9 := c9.size
  have e4 : Ch w4 w9 [w.heap.size + 1, w.heap.size + 2] := c9
  have e3 : Ch w3 w9 [w.heap.size + 1, w.heap.size + 2] := ((Ch.one (grown_set w3 (w.heap.size + 2) 2 (.slice a3' x.values.length k3')) (by simp)).trans (Ch.of N4.out.2)).trans e4
  have e2 : Ch w2 w9 [w.heap.size + 1, w.heap.size + 2] := ((Ch.one (grown_set w2 (w.heap.size + 2) 1 (.slice a2' x.results.length k2')) (by simp)).trans (Ch.of N3.out.2)).trans e3
  have e1 : Ch w1 w9 [w.heap.size + 1, w.heap.size + 2] := ((Ch.one (grown_set w1 (w.heap.size + 2) 0 (.slice a1' x.params.length k1')) (by simp)).trans (Ch.of N2.out.2)).trans e2
  have g1 := N1.out.2.size
  try simp only [World.size_setCell] at g1
  have g2 := N2.out.2.size
  try simp only [World.size_setCell] at g2
  have g3 := N3.out.2.size
  try simp only [World.size_setCell] at g3
  have g4 := N4.out.2.size
  try simp only [World.size_setCell] at g4
  have hz0 : W3.heap.size ≤ W3.heap.size := Nat.le_refl _
  refine ⟨a1', k1', a2', k2', a3', k3', a4', k4', rfl, ⟨NumL.ch N1.out.1 e1 (fun q hq => by have h1 := hq.1; have h2 := hz0; (try simp at h1); simp; omega) (fun q hq => ⟨by have h1 := hq.1; have h2 := hz0; (try simp at h1); omega, by have := hq.2; have := e1.size; omega⟩), NumL.ch N2.out.1 e2 (fun q hq => by have h1 := hq.1; have h2 := hz1; (try simp at h1); simp; omega) (fun q hq => ⟨by have h1 := hq.1; have h2 := hz1; (try simp at h1); omega, by have := hq.2; have := e2.size; omega⟩), VlL.ch N3.out.1 e3 (fun q hq => by have h1 := hq.1; have h2 := hz2; (try simp at h1); simp; omega) (fun q hq => ⟨by have h1 := hq.1; have h2 := hz2; (try simp at h1); omega, by have := hq.2; have := e3.size; omega⟩), BlL.ch N4.out.1 e4 (fun q hq => by have h1 := hq.1; have h2 := hz3; (try simp at h1); simp; omega) (fun q hq => ⟨by have h1 := hq.1; have h2 := hz3; (try simp at h1); omega, by have := hq.2; have := e4.size; omega⟩)⟩, ?_⟩
  exact ((Ch.of HG3.out).trans (((D4.out).mono (fun q _ hq => by simp at hq; simp [hq])).trans c9)).nil (by simp)
/-- a function and where its rows lie -/
structure CE where
  x : Sa.Cd
  a1 : Option Addr
  k1 : Nat
  a2 : Option Addr
  k2 : Nat
  a3 : Option Addr
  k3 : Nat
  a4 : Option Addr
  k4 : Nat
def cellsCE (e : CE) : List Value := [.slice e.a1 e.x.params.length e.k1, .slice e.a2 e.x.results.length e.k2, .slice e.a3 e.x.values.length e.k3, .slice e.a4 e.x.blocks.length e.k4]
def InCE (B : Nat → Prop) (W : World) (e : CE) : Prop := NumL B W e.a1 e.k1 e.x.params ∧ NumL B W e.a2 e.k2 e.x.results ∧ VlL B W e.a3 e.k3 e.x.values ∧ BlL B W e.a4 e.k4 e.x.blocks
theorem inCE_ch : InCh InCE := fun h hg hl hB => ⟨NumL.ch h.1 hg hl hB, NumL.ch h.2.1 hg hl hB, VlL.ch h.2.2.1 hg hl hB, BlL.ch h.2.2.2 hg hl hB⟩
theorem info_CE : (Try.prog.info? 28).map (fun i => (i.zero, i.size, i.bytes)) = some (some (.agg #[.slice none 0 0, .slice none 0 0, .slice none 0 0, .slice none 0 0]), 4, 96) := by kernel_rfl
theorem wp_appCE {ops : Array Oper} {rest : List Oper} {o : Oper} {a : Act} {Q : Exit → Act → World → Prop} {W : World} (hgd : o.guard = none) (s y : Operand)
    (ho : o.op = .call { callee := .builtin .append, args := #[s, y], argTypes := #[22, 22] }) (base : Nat) (v : Value) (L : List CE) (e : CE) (hs : a.eval s = v) (hown : W.ownsRow base 28 4 v L.length (L.flatMap cellsCE))
    {nb : Nat} (hx : a.eval y = .slice (some ⟨nb, 0, none⟩) 1 1) (hnb : nb = W.heap.size) (hl : (L.length + 1) * 96 ≤ 140737488351232) (hb : base ≤ W.heap.size)
    (h : ∀ v' w', w'.ownsRow base 28 4 v' (L.length + 1) (L.flatMap cellsCE ++ cellsCE e) → W.grownBy w' v.ownBlock → (∀ q, v'.ownBlock = some q → v.ownBlock = some q ∨ W.heap.size ≤ q) → wpList Try.prog ops Q rest (a.put o.dst v') w') :
    wpList Try.prog ops Q (o :: rest) a (W.alloc (Obj.cells #[.slice e.a1 e.x.params.length e.k1, .slice e.a2 e.x.results.length e.k2, .slice e.a3 e.x.values.length e.k3, .slice e.a4 e.x.blocks.length e.k4] 28)) := by
  obtain ⟨i, hi, hz0, hz1, hz2⟩ := info_parts info_CE
  exact wpList_app_one (P := Try.prog) W hgd s y 22 ho base 28 i _ 4 96 Try.underlying22 hi hz0 hz1 hz2 rfl (by decide) v L.length _ hs hown (cellsCE e) hx hnb rfl (by intro u hu; simp [cellsCE] at hu; rcases hu with rfl | rfl | rfl | rfl <;> rfl) (by unfold maxLen; omega) (by omega) hb h
end Go.Proofs.Ytbpdggdpgohilaa
