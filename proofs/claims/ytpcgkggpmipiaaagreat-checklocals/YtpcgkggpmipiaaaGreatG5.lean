/- Contracts and plain facts that the walks share. -/
import Derived.Test.YtpcgkggpmipiaaaGreatPgCpO
import Derived.Test.YtpcgkggpmipiaaaGreatG1
namespace Go.Proofs.YtpcgkggpmipiaaaGreat
set_option maxRecDepth 100000
set_option maxHeartbeats 32000000
open Go.RowKit
set_option linter.unusedVariables false
structure OwnI {E : Type} (ty : TypeId) (size : Nat) (cells : E → List Value) (In : (Nat → Prop) → World → E → Prop) (lo : Nat) (w : World) (v : Value) (L : List E) (s : Nat → Nat) : Prop where
 own : w.ownsRow lo ty size v L.length (L.flatMap cells)
 lo : ∀ i, lo ≤ s i
 mo : ∀ i j, i ≤ j → s i ≤ s j
 hi : ∀ i, s i ≤ w.heap.size
 ent : ∀ (i : Nat) (e : E), L[i]? = some e → In (fun q => s i ≤ q ∧ q < s (i + 1) ∧ v.ownBlock ≠ some q) w e
theorem OwnI.ch {E : Type} {ty : TypeId} {size : Nat} {cells : E → List Value} {In : (Nat → Prop) → World → E → Prop} (hIn : InCh In) {lo : Nat} {w w' : World} {v : Value} {L : List E} {s : Nat → Nat} {l : List Nat} (h : OwnI ty size cells In lo w v L s) (g : Ch w w' l) (hl : ∀ q, lo ≤ q → q < w.heap.size → q ∉ l) : OwnI ty size cells In lo w' v L s :=
 ⟨ownsRow_chg h.own g (fun q hq => hl q (World.ownsRow.lt h.own q hq).1 (World.ownsRow.lt h.own q hq).2), h.lo, h.mo, fun i => Nat.le_trans (h.hi i) g.size, fun i e he => hIn (h.ent i e he) g (fun q hq => hl q (Nat.le_trans (h.lo i) hq.1) (Nat.lt_of_lt_of_le hq.2.1 (h.hi _))) (fun _ h => h)⟩
structure CopI {E : Type} (ty : TypeId) (size : Nat) (cells : E → List Value) (In : (Nat → Prop) → World → E → Prop) (w wr : World) (k : Nat) (v : Value) (L : List E) (s : Nat → Nat) : Prop where
 o : OwnI ty size cells In w.heap.size wr v L s
 len : L.length = k
 gr : w.grownBy wr none
theorem CopI.start {E : Type} (ty : TypeId) (size : Nat) (cells : E → List Value) (In : (Nat → Prop) → World → E → Prop) (w : World) : CopI ty size cells In w w 0 (.slice none 0 0) [] (fun _ => w.heap.size) := ⟨⟨World.ownsRow_nil _ _ _ _, fun _ => Nat.le_refl _, fun _ _ _ => Nat.le_refl _, fun _ => Nat.le_refl _, fun i e h => by simp at h⟩, rfl, World.grownBy.refl _ _⟩
theorem CopI.step {E : Type} {ty : TypeId} {size : Nat} {cells : E → List Value} {In : (Nat → Prop) → World → E → Prop} (hIn : InCh In) {w wr w4 w6 : World} {k : Nat} {v v6 : Value} {L : List E} {s : Nat → Nat} (h : CopI ty size cells In w wr k v L s) (g4 : wr.grownBy w4 none)
  {e : E} (he : In (fun q => wr.heap.size ≤ q ∧ q < w4.heap.size) w4 e) (o6 : w6.ownsRow w.heap.size ty size v6 (L.length + 1) (L.flatMap cells ++ cells e)) (g6 : w4.grownBy w6 v.ownBlock) (b6 : ∀ q, v6.ownBlock = some q → v.ownBlock = some q ∨ w4.heap.size ≤ q) :
  CopI ty size cells In w w6 (k + 1) v6 (L ++ [e]) (fun i => if i ≤ L.length then s i else w4.heap.size) := by
 have s0 := h.gr.size
 have s4 := g4.size
 have s6 := g6.size
 have c6 := grown_cho g6
 have hb : ∀ q, v.ownBlock = some q → w.heap.size ≤ q ∧ q < wr.heap.size := fun q hq => World.ownsRow.lt h.o.own q hq
 refine ⟨⟨?_, fun i => ?_, fun i j hij => ?_, fun i => ?_, fun i x hx => ?_⟩, by simp [h.len], ?_⟩
 ·rw [List.length_append, List.flatMap_append]
  simpa using o6
 ·have h1 := h.o.lo i
  split <;> omega
 ·have h1 := h.o.mo i j hij
  have h2 := h.o.hi i
  split <;> split <;> omega
 ·have h2 := h.o.hi i
  split <;> omega
 ·by_cases hi : i < L.length
  ·rw [List.getElem?_append_left hi] at hx
   have h1 := h.o.ent i x hx
   have h7 := h.o.hi (i + 1)
   refine hIn (hIn h1 (Ch.of (l := []) g4) (by simp) (B' := fun q => s i ≤ q ∧ q < s (i + 1) ∧ v.ownBlock ≠ some q) (fun _ h => h)) c6 (fun q hq hm => hq.2.2 (by simpa using hm)) (fun q hq => ⟨?_, ?_, fun hf => ?_⟩)
   ·rw [if_pos (by omega)]; exact hq.1
   ·rw [if_pos (by omega)]; exact hq.2.1
   ·rcases b6 q hf with h5 | h5
    ·exact hq.2.2 h5
    ·have := hq.2.1
     omega
  ·have hik : i = L.length := by
    have := (List.getElem?_eq_some_iff.1 hx).1
    simp at this
    omega
   subst hik
   rw [List.getElem?_append_right (Nat.le_refl _)] at hx
   simp at hx
   subst hx
   have h7 := h.o.hi L.length
   refine hIn he c6 (fun q hq hm => ?_) (fun q hq => ⟨?_, ?_, fun hf => ?_⟩)
   ·have := (hb q (by simpa using hm)).2
    omega
   ·rw [if_pos (Nat.le_refl _)]; omega
   ·rw [if_neg (by omega)]; exact hq.2
   ·rcases b6 q hf with h5 | h5
    ·have := (hb q h5).2
     omega
    ·omega
 ·exact ((Ch.of (l := v.ownBlock.toList) (grown_trans h.gr g4)).trans c6).nil (fun q hq => (hb q (by simpa using hq)).1)
theorem owns_slice {w : World} {base : Nat} {ty : TypeId} {size : Nat} {v : Value} {n : Nat} {cs : List Value} (h : w.ownsRow base ty size v n cs) : ∃ a c, v = .slice a n c := by
 rcases h.2 with ⟨e1, e2⟩ | ⟨T, c, cur, e1, _⟩
 ·subst e2; exact ⟨_, _, e1⟩
 ·exact ⟨_, _, e1⟩
def InSI (B : Nat → Prop) (W : World) (e : SE) : Prop := (∃ u1 u2, ExL (fun q => B q ∧ q < u1) W e.a1 e.k1 e.x.args ∧ NumO (fun q => B q ∧ u1 ≤ q ∧ q < u2) W e.a2 e.k2 e.x.dst ∧ StL (fun q => B q ∧ u2 ≤ q) W e.a3 e.k3 e.x.a ∧ StL (fun q => B q ∧ u2 ≤ q) W e.a4 e.k4 e.x.b) ∧ R64 e.x.n
theorem inSI_ch : InCh InSI := fun h hg hl hB => by
 obtain ⟨⟨u1, u2, h1, h2, h3, h4⟩, h5⟩ := h
 exact ⟨⟨u1, u2, ExL.ch h1 hg (fun q hq => hl q hq.1) (fun q hq => ⟨hB q hq.1, hq.2⟩), NumO.ch h2 hg (fun q hq => hl q hq.1) (fun q hq => ⟨hB q hq.1, hq.2⟩), StL.ch h3 hg (fun q hq => hl q hq.1) (fun q hq => ⟨hB q hq.1, hq.2⟩), StL.ch h4 hg (fun q hq => hl q hq.1) (fun q hq => ⟨hB q hq.1, hq.2⟩)⟩, h5⟩
def InFI (B : Nat → Prop) (W : World) (e : FE) : Prop := ∃ u1, NumO (fun q => B q ∧ q < u1) W e.a1 e.k1 e.x.locals ∧ NumL (fun q => B q ∧ u1 ≤ q) W e.a2 e.k2 e.x.results ∧ StL (fun q => B q ∧ u1 ≤ q) W e.a3 e.k3 e.x.body
theorem inFI_ch : InCh InFI := fun h hg hl hB => by
 obtain ⟨u1, h1, h2, h3⟩ := h
 exact ⟨u1, NumO.ch h1 hg (fun q hq => hl q hq.1) (fun q hq => ⟨hB q hq.1, hq.2⟩), NumL.ch h2 hg (fun q hq => hl q hq.1) (fun q hq => ⟨hB q hq.1, hq.2⟩), StL.ch h3 hg (fun q hq => hl q hq.1) (fun q hq => ⟨hB q hq.1, hq.2⟩)⟩
theorem copyExprs_own (l : List Pg.Ex) : ∀ (B : Nat → Prop) (w : World) (a : Option Addr) (c : Nat), ExL B w a c l →
 Calls Tryz.prog 46 #[.slice a l.length c] w fun e w' => ∃ a' c' L, e = .returned (.slice a' l.length c') ∧ L.map EE.x = l ∧ CopG 45 5 cellsE InE w w' l.length (.slice a' l.length c') L := by
 intro B w a c h
 have hle := h.le
 have hmx := h.max
 have hfi : l.length * 64 ≤ 140737488351232 := h.fits
 unfold maxLen at hmx
 have HL : Hid (ExL B w a c l) := h
 clear h
 go_enter Tryz.func46, Tryz.ntmps46
 go_wp2_with fail
 go_loopw [3, 4] (fun v ix wr => ∃ (k : Nat) (L : List EE), ix = .int .i64 k ∧ k ≤ l.length ∧ L.map EE.x = l.take k ∧ CopG 45 5 cellsE InE w wr k v L) (fun _ ix _ => l.length - (intOf ix).toNat)
 case atStart => exact ⟨0, [], rfl, Nat.zero_le _, rfl, CopG.start _ _ _ _ _⟩
 case round =>
  obtain ⟨k, L, rfl, hk, hm, hc⟩ := hrel
  have HC : Hid (CopG 45 5 cellsE InE w wr k _ L) := hc
  have HM : Hid (L.map EE.x = l.take k) := hm
  clear hm
  by_cases hkn : k < l.length
  ·have hkn' : (k : Int) < l.length := by omega
   obtain ⟨b, o, rfl, hb, hx⟩ := (ExL.grow HL.out hc.gr).at hkn
   obtain ⟨a4, k4, he⟩ := hx.row
   have HCp := copyExpr_any (copyExprs_any _) he.args
   have hR : R64 l[k].n ∧ l[k].s.size ≤ reachBytes := ⟨he.rg, he.sz⟩
   have c0 := he.c0
   have c1 := he.c1
   have c2 := he.c2
   have c3 := he.c3
   have c4 := he.c4
   have hlen := hc.len
   have hsz := hc.gr.size
   clear hx he hc
   have HT : Hid (l.take (k + 1) = l.take k ++ [l[k]]) := List.take_succ_eq_append_getElem hkn
   generalize l[k] = x at *
   have HR : Hid (R64 x.n ∧ x.s.size ≤ reachBytes) := hR
   have HCp : Hid (Calls Tryz.prog 20 #[.agg #[.int .i64 x.op, .int .i64 x.t, .int .i64 x.n, .string x.s, .slice a4 x.args.length k4]] wr fun e w' => ∃ a' c', e = .returned (.agg #[.int .i64 x.op, .int .i64 x.t, .int .i64 x.n, .string x.s, .slice a' x.args.length c']) ∧ ExL (Fresh wr w') w' a' c' x.args ∧ wr.grownBy w' none) := HCp
   clear hR
   go_wp2_with (first
    | (go_at_call 20; refine HCp.out.mono ?_; rintro e w4 ⟨a', c', rfl, hN4, hg4⟩; have H4 : Hid (ExL (Fresh wr w4) w4 a' c' x.args ∧ wr.grownBy w4 none) := ⟨hN4, hg4⟩; have hs4 := hg4.size; clear hN4 hg4)
    | (at_builtin; refine wp_appEx rfl _ _ rfl w.heap.size u3 L ⟨x, a', c'⟩ rfl (World.ownsRow.kept HC.out.own H4.out.2 (Classical.em _)) rfl rfl (by omega) (by omega) ?_; intro v6 w6 o6 g6 b6))
   go_roundw
   case rel => exact ⟨k + 1, L ++ [⟨x, a', c'⟩], by go_num, by omega, by rw [List.map_append, HM.out, HT.out]; rfl, CopG.step (In := InE) @inE_ch HC.out H4.out.2 ⟨H4.out.1, HR.out⟩ o6 g6 b6⟩
   case measure => simp [intOf]; omega
  ·obtain rfl : k = l.length := by omega
   have hm9 := HM.out
   rw [List.take_length] at hm9
   obtain ⟨a1, c1, hu3⟩ := owns_slice hc.own
   rw [hc.len] at hu3
   subst hu3
   have HM9 : Hid (L.map EE.x = l) := hm9
   clear hc hm9
   go_wp2
   go_ret
   exact ⟨a1, c1, L, rfl, HM9.out, HC.out⟩
theorem copyStmts_int (l : List Pg.St) : ∀ (B : Nat → Prop) (w : World) (a : Option Addr) (c : Nat), (∀ q, B q → q < w.heap.size) → StL B w a c l →
 Calls Tryz.prog 48 #[.slice a l.length c] w fun e w' => ∃ a' c' L s, e = .returned (.slice a' l.length c') ∧ L.map SE.x = l ∧ CopI 51 6 cellsSE InSI w w' l.length (.slice a' l.length c') L s := by
 intro B w a c hB h
 have hle := h.le
 have hmx := h.max
 have hfi : l.length * 112 ≤ 140737488351232 := h.fits
 unfold maxLen at hmx
 have HL : Hid (StL B w a c l) := h
 have HB : Hid (∀ q, B q → q < w.heap.size) := hB
 clear h hB
 go_enter Tryz.func48, Tryz.ntmps48
 go_wp2_with fail
 go_loopw [3, 4] (fun v ix wr => ∃ (k : Nat) (L : List SE) (s : Nat → Nat), ix = .int .i64 k ∧ k ≤ l.length ∧ L.map SE.x = l.take k ∧ CopI 51 6 cellsSE InSI w wr k v L s) (fun _ ix _ => l.length - (intOf ix).toNat)
 case atStart => exact ⟨0, [], _, rfl, Nat.zero_le _, rfl, CopI.start _ _ _ _ _⟩
 case round =>
  obtain ⟨k, L, s, rfl, hk, hm, hc⟩ := hrel
  have HC : Hid (CopI 51 6 cellsSE InSI w wr k _ L s) := hc
  have HM : Hid (L.map SE.x = l.take k) := hm
  clear hm
  by_cases hkn : k < l.length
  ·have hkn' : (k : Int) < l.length := by omega
   obtain ⟨b, o, rfl, hb, hx⟩ := (StL.grow HL.out hc.gr).at hkn
   obtain ⟨a1, a2, a3, a4, k1, k2, k3, k4, he⟩ := hx.row
   have HCp := copyStmt_int (fun q hq => Nat.lt_of_lt_of_le (HB.out q hq) hc.gr.size) (copyStmts_any _) (copyStmts_any _) he.args he.dst he.a he.b
   have hR := he.rg
   have c0 := he.c0
   have c1 := he.c1
   have c2 := he.c2
   have c3 := he.c3
   have c4 := he.c4
   have c5 := he.c5
   have hlen := hc.len
   have hsz := hc.gr.size
   clear hx he hc
   have HT : Hid (l.take (k + 1) = l.take k ++ [l[k]]) := List.take_succ_eq_append_getElem hkn
   generalize l[k] = x at *
   have HR : Hid (R64 x.n) := hR
   clear hR
   have HCp : Hid (Calls Tryz.prog 85 #[.agg #[.int .i64 x.op, .int .i64 x.n, .slice a1 x.args.length k1, .slice a2 x.dst.length k2, .slice a3 x.a.length k3, .slice a4 x.b.length k4]] wr fun e w' => ∃ a1' k1' a2' k2' a3' k3' a4' k4', e = .returned (.agg #[.int .i64 x.op, .int .i64 x.n, .slice a1' x.args.length k1', .slice a2' x.dst.length k2', .slice a3' x.a.length k3', .slice a4' x.b.length k4']) ∧ (∃ u1 u2, ExL (fun q => Fresh wr w' q ∧ q < u1) w' a1' k1' x.args ∧ NumO (fun q => Fresh wr w' q ∧ u1 ≤ q ∧ q < u2) w' a2' k2' x.dst ∧ StL (fun q => Fresh wr w' q ∧ u2 ≤ q) w' a3' k3' x.a ∧ StL (fun q => Fresh wr w' q ∧ u2 ≤ q) w' a4' k4' x.b) ∧ wr.grownBy w' none) := HCp
   go_wp2_with (first
    | (go_at_call 85; refine HCp.out.mono ?_; rintro e w4 ⟨a1', k1', a2', k2', a3', k3', a4', k4', rfl, hN4, hg4⟩; have H4 : Hid ((∃ u1 u2, ExL (fun q => Fresh wr w4 q ∧ q < u1) w4 a1' k1' x.args ∧ NumO (fun q => Fresh wr w4 q ∧ u1 ≤ q ∧ q < u2) w4 a2' k2' x.dst ∧ StL (fun q => Fresh wr w4 q ∧ u2 ≤ q) w4 a3' k3' x.a ∧ StL (fun q => Fresh wr w4 q ∧ u2 ≤ q) w4 a4' k4' x.b) ∧ wr.grownBy w4 none) := ⟨hN4, hg4⟩; have hs4 := hg4.size; clear hN4 hg4)
    | (at_builtin; refine wp_appSE rfl _ _ rfl w.heap.size u3 L ⟨x, a1', k1', a2', k2', a3', k3', a4', k4'⟩ rfl (World.ownsRow.kept HC.out.o.own H4.out.2 (Classical.em _)) rfl rfl (by omega) (by omega) ?_; intro v6 w6 o6 g6 b6))
   go_roundw
   case rel => exact ⟨k + 1, L ++ [⟨x, a1', k1', a2', k2', a3', k3', a4', k4'⟩], _, by go_num, by omega, by rw [List.map_append, HM.out, HT.out]; rfl, CopI.step (In := InSI) @inSI_ch HC.out H4.out.2 ⟨H4.out.1, HR.out⟩ o6 g6 b6⟩
   case measure => simp [intOf]; omega
  ·obtain rfl : k = l.length := by omega
   have hm9 := HM.out
   rw [List.take_length] at hm9
   obtain ⟨a1, c1, hu3⟩ := owns_slice hc.o.own
   rw [hc.len] at hu3
   subst hu3
   have HM9 : Hid (L.map SE.x = l) := hm9
   clear hc hm9
   go_wp2
   go_ret
   exact ⟨a1, c1, L, s, rfl, HM9.out, HC.out⟩
theorem copyFuncs_int (l : List Pg.Fn) : ∀ (B : Nat → Prop) (w : World) (a : Option Addr) (c : Nat), (∀ q, B q → q < w.heap.size) → FnL B w a c l →
 Calls Tryz.prog 26 #[.slice a l.length c] w fun e w' => ∃ a' c' L s, e = .returned (.slice a' l.length c') ∧ L.map FE.x = l ∧ CopI 53 4 cellsFE InFI w w' l.length (.slice a' l.length c') L s := by
 intro B w a c hB h
 have hle := h.le
 have hmx := h.max
 have hfi : l.length * 80 ≤ 140737488351232 := h.fits
 unfold maxLen at hmx
 have HL : Hid (FnL B w a c l) := h
 have HB : Hid (∀ q, B q → q < w.heap.size) := hB
 clear h hB
 go_enter Tryz.func26, Tryz.ntmps26
 go_wp2_with fail
 go_loopw [3, 4] (fun v ix wr => ∃ (k : Nat) (L : List FE) (s : Nat → Nat), ix = .int .i64 k ∧ k ≤ l.length ∧ L.map FE.x = l.take k ∧ CopI 53 4 cellsFE InFI w wr k v L s) (fun _ ix _ => l.length - (intOf ix).toNat)
 case atStart => exact ⟨0, [], _, rfl, Nat.zero_le _, rfl, CopI.start _ _ _ _ _⟩
 case round =>
  obtain ⟨k, L, s, rfl, hk, hm, hc⟩ := hrel
  have HC : Hid (CopI 53 4 cellsFE InFI w wr k _ L s) := hc
  have HM : Hid (L.map FE.x = l.take k) := hm
  clear hm
  by_cases hkn : k < l.length
  ·have hkn' : (k : Int) < l.length := by omega
   obtain ⟨b, o, rfl, hb, hx⟩ := (FnL.grow HL.out hc.gr).at hkn
   obtain ⟨a1, a2, a3, k1, k2, k3, he⟩ := hx |> id
   have HCp := copyFunc_int (fun q hq => Nat.lt_of_lt_of_le (HB.out q hq) hc.gr.size) he.l he.r he.b
   have c0 := he.c0
   have c1 := he.c1
   have c2 := he.c2
   have c3 := he.c3
   have hlen := hc.len
   have hsz := hc.gr.size
   clear hx he hc
   have HT : Hid (l.take (k + 1) = l.take k ++ [l[k]]) := List.take_succ_eq_append_getElem hkn
   generalize l[k] = x at *
   have HCp : Hid (Calls Tryz.prog 53 #[.agg #[.int .i64 x.params, .slice a1 x.locals.length k1, .slice a2 x.results.length k2, .slice a3 x.body.length k3]] wr fun e w' => ∃ a1' k1' a2' k2' a3' k3', e = .returned (.agg #[.int .i64 x.params, .slice a1' x.locals.length k1', .slice a2' x.results.length k2', .slice a3' x.body.length k3']) ∧ (∃ u1, NumO (fun q => Fresh wr w' q ∧ q < u1) w' a1' k1' x.locals ∧ NumL (fun q => Fresh wr w' q ∧ u1 ≤ q) w' a2' k2' x.results ∧ StL (fun q => Fresh wr w' q ∧ u1 ≤ q) w' a3' k3' x.body) ∧ wr.grownBy w' none) := HCp
   go_wp2_with (first
    | (go_at_call 53; refine HCp.out.mono ?_; rintro e w4 ⟨a1', k1', a2', k2', a3', k3', rfl, hN4, hg4⟩; have H4 : Hid ((∃ u1, NumO (fun q => Fresh wr w4 q ∧ q < u1) w4 a1' k1' x.locals ∧ NumL (fun q => Fresh wr w4 q ∧ u1 ≤ q) w4 a2' k2' x.results ∧ StL (fun q => Fresh wr w4 q ∧ u1 ≤ q) w4 a3' k3' x.body) ∧ wr.grownBy w4 none) := ⟨hN4, hg4⟩; have hs4 := hg4.size; clear hN4 hg4)
    | (at_builtin; refine wp_appFE rfl _ _ rfl w.heap.size u3 L ⟨x, a1', k1', a2', k2', a3', k3'⟩ rfl (World.ownsRow.kept HC.out.o.own H4.out.2 (Classical.em _)) rfl rfl (by omega) (by omega) ?_; intro v6 w6 o6 g6 b6))
   go_roundw
   case rel => exact ⟨k + 1, L ++ [⟨x, a1', k1', a2', k2', a3', k3'⟩], _, by go_num, by omega, by rw [List.map_append, HM.out, HT.out]; rfl, CopI.step (In := InFI) @inFI_ch HC.out H4.out.2 (show InFI (Fresh wr w4) w4 ⟨x, a1', k1', a2', k2', a3', k3'⟩ from H4.out.1) o6 g6 b6⟩
   case measure => simp [intOf]; omega
  ·obtain rfl : k = l.length := by omega
   have hm9 := HM.out
   rw [List.take_length] at hm9
   obtain ⟨a1, c1, hu3⟩ := owns_slice hc.o.own
   rw [hc.len] at hu3
   subst hu3
   have HM9 : Hid (L.map FE.x = l) := hm9
   clear hc hm9
   go_wp2
   go_ret
   exact ⟨a1, c1, L, s, rfl, HM9.out, HC.out⟩
theorem copyProgram_int {B : Nat → Prop} {w : World} {x : Pg.Pr} {a1 a2 : Option Addr} {k1 k2 : Nat} (hB : ∀ q, B q → q < w.heap.size)  (h1 : TpL B w a1 k1 x.types) (h2 : FnL B w a2 k2 x.funcs) :
  Calls Tryz.prog 9 #[.agg #[.slice a1 x.types.length k1, .slice a2 x.funcs.length k2]] w fun e w' => ∃ a1' k1' a2' k2' L2 s m, e = .returned (.agg #[.slice a1' x.types.length k1', .slice a2' x.funcs.length k2']) ∧ (L2.map FE.x = x.funcs ∧ TpL (fun q => w.heap.size ≤ q ∧ q < m) w' a1' k1' x.types ∧ OwnI 53 4 cellsFE InFI m w' (.slice a2' x.funcs.length k2') L2 s ∧ w.heap.size ≤ m ∧ m ≤ w'.heap.size) ∧ w.grownBy w' none := by
 obtain ⟨W3, hW3⟩ : ∃ W3, W3 = ((w.alloc (.cells #[.slice a1 x.types.length k1, .slice a2 x.funcs.length k2] 27)).alloc (.cells #[.slice none 0 0, .slice none 0 0] 27)).alloc (.cells #[.slice a1 x.types.length k1, .slice a2 x.funcs.length k2] 27) := ⟨_, rfl⟩
 have hg3 : w.grownBy W3 none := by rw [hW3]; exact ga (ga (World.grownBy_alloc _ _ _) _) _
 have hs3 : W3.heap.size = w.heap.size + 3 := by rw [hW3]; simp
 have H1 : Hid (∀ W, Ch W3 W [w.heap.size + 2] → Calls Tryz.prog 25 #[.slice a1 x.types.length k1] W fun e w' => ∃ a' c', e = .returned (.slice a' x.types.length c') ∧ TpL (Fresh W w') w' a' c' x.types ∧ W.grownBy w' none) := fun W hc => copyTypes_list x.types B W a1 k1 (fun q hq => Nat.lt_of_lt_of_le (hB q hq) (Nat.le_trans hg3.size hc.size)) (TpL.ch (TpL.grow h1 hg3) hc (fun q hq => by have := hB q hq; simp; omega) (fun _ h => h))
 have H2 : Hid (∀ W, Ch W3 W [w.heap.size + 2] → Calls Tryz.prog 26 #[.slice a2 x.funcs.length k2] W fun e w' => ∃ a' c' L s, e = .returned (.slice a' x.funcs.length c') ∧ (L.map FE.x = x.funcs ∧ OwnI 53 4 cellsFE InFI W.heap.size w' (.slice a' x.funcs.length c') L s) ∧ W.grownBy w' none) := fun W hc => Calls.mono (copyFuncs_int x.funcs B W a2 k2 (fun q hq => Nat.lt_of_lt_of_le (hB q hq) (Nat.le_trans hg3.size hc.size)) (FnL.ch (FnL.grow h2 hg3) hc (fun q hq => by have := hB q hq; simp; omega) (fun _ h => h))) (fun e w' h9 => by obtain ⟨a', c', L, s, e1, e2, e3⟩ := h9; exact ⟨a', c', L, s, e1, ⟨e2, e3.o⟩, e3.gr⟩)
 have HG3 : Hid (w.grownBy W3 none) := hg3
 have HW3 : Hid (W3 = ((w.alloc (.cells #[.slice a1 x.types.length k1, .slice a2 x.funcs.length k2] 27)).alloc (.cells #[.slice none 0 0, .slice none 0 0] 27)).alloc (.cells #[.slice a1 x.types.length k1, .slice a2 x.funcs.length k2] 27)) := hW3
 have K : Hid ((∀ j v, (#[.slice a1 x.types.length k1, .slice a2 x.funcs.length k2] : Array Value)[j]? = some v → W3.cell? ⟨w.heap.size + 2, j, none⟩ = some v) ∧ (∀ q, W3.frozen? ⟨w.heap.size + 2, q, none⟩ = false) ∧ (∀ j v, (#[.slice none 0 0, .slice none 0 0] : Array Value)[j]? = some v → W3.cell? ⟨w.heap.size + 1, j, none⟩ = some v) ∧ (∀ q, W3.frozen? ⟨w.heap.size + 1, q, none⟩ = false) ∧ (∀ j v, (#[.slice a1 x.types.length k1, .slice a2 x.funcs.length k2] : Array Value)[j]? = some v → W3.cell? ⟨w.heap.size, j, none⟩ = some v)) := by
  rw [hW3]
  refine ⟨fun j v hv => ?_, fun q => ?_, fun j v hv => ?_, fun q => ?_, fun j v hv => ?_⟩
  ·rw [← hv]; exact cells_new _ _ (by simp) _
  ·exact fzs_new _ _ (by simp) _
  ·exact (Ch.of (l := []) (World.grownBy_alloc _ _ _)).cell ((cells_new _ _ (by simp) _).trans hv) (by simp)
  ·exact frozenK (l := []) (Ch.of (World.grownBy_alloc _ _ _)) (by simp) (by simp) (fzs_new _ _ (by simp) _)
  ·exact (Ch.of (l := []) (ga (World.grownBy_alloc _ _ _) _)).cell ((cells_new _ _ rfl _).trans hv) (by simp)
 clear h1 h2 hg3 hW3 hB
 go_enter Tryz.func9, Tryz.ntmps9
 go_wp2_with (first
  | (go_at_call 25; rw [← HW3.out]; refine (H1.out _ (Ch.refl _ _)).mono ?_; rintro e w1 ⟨a1', k1', rfl, hN, hg⟩; have N1 : Hid (TpL (Fresh W3 w1) w1 a1' k1' x.types ∧ W3.grownBy w1 none) := ⟨hN, hg⟩; have D1 : Hid (Ch W3 w1 [w.heap.size + 2]) := (Ch.refl _ _).trans (Ch.of hg); have hz1 := D1.out.size; have m10 := (Ch.of (l := []) hg).cell (K.out.1 0 _ rfl) (by simp); have m11 := (Ch.of (l := []) hg).cell (K.out.1 1 _ rfl) (by simp); have Z1 : Hid (∀ q, w1.frozen? ⟨w.heap.size + 2, q, none⟩ = false) := fun q => frozenK (l := []) (Ch.of hg) (by omega) (by simp) (K.out.2.1 q); have z1 := Z1.out 0; have b1 := D1.out.cell (K.out.2.2.2.2 1 _ rfl) (by simp); have C1 : Hid (Ch W3 (w1.setCell ⟨w.heap.size + 2, 0, none⟩ (.slice a1' x.types.length k1')) [w.heap.size + 2]) := D1.out.trans (Ch.one (grown_set _ _ _ _) (by simp)); clear hN hg H1)
  | (go_at_call 26; refine (H2.out _ C1.out).mono ?_; rintro e w2 ⟨a2', k2', L2, s, rfl, hN, hg⟩; have N2 : Hid ((L2.map FE.x = x.funcs ∧ OwnI 53 4 cellsFE InFI (w1.setCell ⟨w.heap.size + 2, 0, none⟩ (.slice a1' x.types.length k1')).heap.size w2 (.slice a2' x.funcs.length k2') L2 s) ∧ (w1.setCell ⟨w.heap.size + 2, 0, none⟩ (.slice a1' x.types.length k1')).grownBy w2 none) := ⟨hN, hg⟩; have D2 : Hid (Ch W3 w2 [w.heap.size + 2]) := C1.out.trans (Ch.of hg); have hz2 := D2.out.size; have m20 := (Ch.of (l := []) hg).cell (World.cell?_setCell_same _ _ _ m10) (by simp); have m21 := (Ch.of (l := []) hg).cell ((World.cell?_setCell_other _ _ _ _ (by simp)).trans m11) (by simp); have Z2 : Hid (∀ q, w2.frozen? ⟨w.heap.size + 2, q, none⟩ = false) := fun q => frozenK (l := []) (Ch.of hg) (by simp; omega) (by simp) (by rw [World.frozen?_setCell]; exact Z1.out q); have z2 := Z2.out 1; have C2 : Hid (Ch W3 (w2.setCell ⟨w.heap.size + 2, 1, none⟩ (.slice a2' x.funcs.length k2')) [w.heap.size + 2]) := D2.out.trans (Ch.one (grown_set _ _ _ _) (by simp)); have r0 := D2.out.cell (K.out.2.2.1 0 _ rfl) (by simp); have y0 := frozenK D2.out (by omega) (by simp) (K.out.2.2.2.1 0); have r1 := D2.out.cell (K.out.2.2.1 1 _ rfl) (by simp); have y1 := frozenK D2.out (by omega) (by simp) (K.out.2.2.2.1 1); clear hN hg H2))
 refine bodyPost_ret (by simp [results, Tryz.results9, go_sem, r0, r1]; try rfl) rfl ?_
 generalize hw9 : World.setCell (World.setCell _ _ _) _ _ = w9
 have c9 : Ch w2 w9 [w.heap.size + 1, w.heap.size + 2] := by
  rw [← hw9]
  exact (((Ch.one (grown_set _ _ _ _) (by simp)).trans (Ch.one (grown_set _ _ _ _) (by simp))).trans (Ch.one (grown_set _ _ _ _) (by simp)))
 have s9 := c9.size
 have e2 : Ch w2 w9 [w.heap.size + 1, w.heap.size + 2] := c9
 have e1 : Ch w1 w9 [w.heap.size + 1, w.heap.size + 2] := ((Ch.one (grown_set w1 (w.heap.size + 2) 0 (.slice a1' x.types.length k1')) (by simp)).trans (Ch.of N2.out.2)).trans e2
 have g1 := N1.out.2.size
 try simp only [World.size_setCell] at g1
 have g2 := N2.out.2.size
 try simp only [World.size_setCell] at g2
 have hz0 : W3.heap.size ≤ W3.heap.size := Nat.le_refl _
 have hq2 := N2.out.1.2.ch @inFI_ch e2 (fun q h1 h2 hm => by (try simp only [World.size_setCell] at h1); simp at hm; omega)
 try simp only [World.size_setCell] at hq2
 refine ⟨a1', k1', a2', k2', L2, s, w1.heap.size, rfl, ⟨N2.out.1.1, TpL.ch N1.out.1 e1 (fun q hq => by have h1 := hq.1; have h2 := hz0; (try simp at h1); simp; omega) (fun q hq => ⟨by have h1 := hq.1; (try simp at h1); omega, hq.2⟩), hq2, by omega, by omega⟩, ?_⟩
 exact ((Ch.of HG3.out).trans (((D2.out).mono (fun q _ hq => by simp at hq; simp [hq])).trans c9)).nil (by simp)
end Go.Proofs.YtpcgkggpmipiaaaGreat
namespace Go.Proofs.YtpcgkggpmipiaaaGreat
open Go.RowKit
set_option linter.unusedVariables false
namespace Pg
def oth (a b n : Int) : Int := if n = a then b else if n = b then a else n
mutual
def Ex.sw (s : Int → Int) : Ex → Ex
 | .mk op t n x args => .mk op t (if op = 4 then s n else n) x (swEs s args)
def swEs (s : Int → Int) : List Ex → List Ex
 | [] => []
 | x :: l => x.sw s :: swEs s l
end
mutual
def St.sw (s : Int → Int) : St → St
 | .mk op n args dst a b => .mk op (if op = 1 then s n else n) (swEs s args) (dst.map s) (swSs s a) (swSs s b)
def swSs (s : Int → Int) : List St → List St
 | [] => []
 | x :: l => x.sw s :: swSs s l
end
theorem swEs_map (s : Int → Int) : ∀ l, swEs s l = l.map (Ex.sw s)
 | [] => rfl
 | x :: l => by rw [swEs, swEs_map s l]; rfl
theorem swSs_map (s : Int → Int) : ∀ l, swSs s l = l.map (St.sw s)
 | [] => rfl
 | x :: l => by rw [swSs, swSs_map s l]; rfl
theorem swEs_len (s : Int → Int) (l : List Ex) : (swEs s l).length = l.length := by rw [swEs_map]; simp
theorem swSs_len (s : Int → Int) (l : List St) : (swSs s l).length = l.length := by rw [swSs_map]; simp
theorem swEs_id : ∀ l : List Ex, (∀ x, x ∈ l → x.sw id = x) → swEs id l = l
 | [], _ => rfl
 | x :: l, h => by rw [swEs, h x (by simp), swEs_id l (fun y hy => h y (by simp [hy]))]
theorem Ex.sw_id : ∀ x : Ex, x.sw id = x := Ex.ind fun op t n s args ih => by
 rw [Ex.sw, swEs_id args ih]
 simp
theorem swSs_id : ∀ l : List St, (∀ x, x ∈ l → x.sw id = x) → swSs id l = l
 | [], _ => rfl
 | x :: l, h => by rw [swSs, h x (by simp), swSs_id l (fun y hy => h y (by simp [hy]))]
theorem St.sw_id : ∀ x : St, x.sw id = x := St.ind fun op n args dst a b iha ihb => by
 rw [St.sw, swEs_id args (fun y _ => Ex.sw_id y), swSs_id a iha, swSs_id b ihb]
 simp
def Fn.sw (f : Fn) (a b : Nat) : Fn := ⟨f.params, (f.locals.set a (f.locals.getD b 0)).set b (f.locals.getD a 0), f.results, swSs (oth a b) f.body⟩
def fn0 : Fn := ⟨0, [], [], []⟩
def Pr.sw (p : Pr) (n a b : Nat) : Pr := ⟨p.types, p.funcs.set n ((p.funcs.getD n fn0).sw a b)⟩
end Pg
end Go.Proofs.YtpcgkggpmipiaaaGreat
namespace Go.Proofs.YtpcgkggpmipiaaaGreat
open Go.RowKit
set_option linter.unusedVariables false
set_option maxRecDepth 100000
set_option maxHeartbeats 8000000
theorem flat_set {E : Type} {cells : E → List Value} {size : Nat} (hs : ∀ e, (cells e).length = size) : ∀ (L : List E) (i j : Nat) (e e' : E) (u : Value), L[i]? = some e → j < size → cells e' = (cells e).set j u → (L.set i e').flatMap cells = (L.flatMap cells).set (i * size + j) u
 | [], i, j, e, e', u, hi, _, _ => by simp at hi
 | a :: L, 0, j, e, e', u, hi, hj, hc => by
  simp at hi
  subst hi
  rw [List.set_cons_zero, List.flatMap_cons, List.flatMap_cons, hc, List.set_append, if_pos (by rw [hs]; omega)]
  simp
 | a :: L, i + 1, j, e, e', u, hi, hj, hc => by
  rw [List.set_cons_succ, List.flatMap_cons, List.flatMap_cons, flat_set hs L i j e e' u (by simpa using hi) hj hc, List.set_append, if_neg (by rw [hs, Nat.succ_mul]; omega), hs]
  congr 2
  rw [Nat.succ_mul]
  omega
theorem own_set {E : Type} {ty : TypeId} {size : Nat} {cells : E → List Value} (hs : ∀ e, (cells e).length = size) {lo : Nat} {w : World} {T n c : Nat} {L : List E} (h : w.ownsRow lo ty size (.slice (some ⟨T, 0, none⟩) n c) n (L.flatMap cells)) {i j : Nat} {e e' : E} {u : Value} (hi : L[i]? = some e) (hj : j < size) (hc : cells e' = (cells e).set j u) :
  (w.setCell ⟨T, i * size + j, none⟩ u).ownsRow lo ty size (.slice (some ⟨T, 0, none⟩) n c) n ((L.set i e').flatMap cells) := by
 rw [flat_set hs L i j e e' u hi hj hc]
 exact (h.stored _ _).1
theorem own_same {E : Type} {ty : TypeId} {size : Nat} {cells : E → List Value} (hs : ∀ e, (cells e).length = size) {lo : Nat} {w : World} {v : Value} {n : Nat} {L : List E} (h : w.ownsRow lo ty size v n (L.flatMap cells)) {i : Nat} {e e' : E} (hi : L[i]? = some e) (hc : cells e' = cells e) :
  w.ownsRow lo ty size v n ((L.set i e').flatMap cells) := by
 have e9 : ∀ (L : List E) (i : Nat), L[i]? = some e → (L.set i e').flatMap cells = L.flatMap cells := by
  intro L
  induction L with
  | nil => intro i hi; simp at hi
  | cons a L ih =>
   intro i hi
   cases i with
   | zero => simp at hi; subst hi; rw [List.set_cons_zero, List.flatMap_cons, List.flatMap_cons, hc]
   | succ i => rw [List.set_cons_succ, List.flatMap_cons, List.flatMap_cons, ih i (by simpa using hi)]
 rw [e9 L i hi]
 exact h
theorem own_cell {E : Type} {ty : TypeId} {size : Nat} {cells : E → List Value} (hs : ∀ e, (cells e).length = size) {lo : Nat} {w : World} {T n c : Nat} {L : List E} (h : w.ownsRow lo ty size (.slice (some ⟨T, 0, none⟩) n c) n (L.flatMap cells)) {i : Nat} {e : E} (hi : L[i]? = some e) {j : Nat} {u : Value} (hu : (cells e)[j]? = some u) : w.cell? ⟨T, i * size + j, none⟩ = some u := by
 have hj : j < size := by rw [← hs e]; exact (List.getElem?_eq_some_iff.1 hu).1
 have hil : i < L.length := (List.getElem?_eq_some_iff.1 hi).1
 have hle : L[i] = e := (List.getElem?_eq_some_iff.1 hi).2
 have h1 := h.1
 rw [flat_len hs] at h1
 have : (i + 1) * size ≤ L.length * size := Nat.mul_le_mul_right _ hil
 rw [Nat.succ_mul] at this
 rw [World.ownsRow.cellAt h (i * size + j) (by omega), flat_at hs L i j hil hj, hle]
 exact hu
theorem lenE9 (e : EE) : (cellsE e).length = 5 := rfl
theorem lenS9 (e : SE) : (cellsSE e).length = 6 := rfl
theorem lenF9 (e : FE) : (cellsFE e).length = 4 := rfl
theorem CopG.alt {E : Type} {ty : TypeId} {size : Nat} {cells : E → List Value} {In : (Nat → Prop) → World → E → Prop} (hIn : InCh In) {w wr w9 : World} {n T c : Nat} {L : List E} (h : CopG ty size cells In w wr n (.slice (some ⟨T, 0, none⟩) n c) L) {i : Nat} {e' : E} (hch : Ch wr w9 [T])
  (ho : w9.ownsRow w.heap.size ty size (.slice (some ⟨T, 0, none⟩) n c) n ((L.set i e').flatMap cells)) (he : In (fun q => w.heap.size ≤ q ∧ q < w9.heap.size ∧ T ≠ q) w9 e') : CopG ty size cells In w w9 n (.slice (some ⟨T, 0, none⟩) n c) (L.set i e') := by
 have hT := World.ownsRow.lt h.own T rfl
 refine ⟨by rw [List.length_set, h.len]; exact ho, by rw [List.length_set]; exact h.len, fun k e hk => ?_, ?_⟩
 ·by_cases hki : i = k
  ·subst hki
   rw [List.getElem?_set] at hk
   rw [if_pos rfl] at hk
   split at hk
   ·injection hk with hk
    subst hk
    exact @hIn _ _ _ _ [] _ he (Ch.refl _ _) (by simp) (fun q hq => ⟨hq.1, hq.2.1, fun e => by injection e with e; exact hq.2.2 e⟩)
   ·cases hk
  ·rw [List.getElem?_set, if_neg hki] at hk
   exact hIn (h.ent k e hk) hch (fun q hq hm => hq.2.2 (by simp at hm; rw [hm]; rfl)) (fun q hq => ⟨hq.1, Nat.lt_of_lt_of_le hq.2.1 hch.size, hq.2.2⟩)
 ·exact ((Ch.of (l := [T]) h.gr).trans hch).nil (fun q hq => by simp at hq; rw [hq]; exact hT.1)
theorem other_any {n x y : Int} {W : World} : Calls Tryz.prog 49 #[.int .i64 n, .int .i64 x, .int .i64 y] W fun e w' => e = .returned (.int .i64 (Pg.oth x y n)) ∧ w' = W := by
 unfold Pg.oth
 by_cases h1 : n = x
 ·have d1 : (n == x) = true := by simpa using h1
  rw [if_pos h1]
  clear h1
  go_enter Tryz.func49, Tryz.ntmps49
  go_wp2
  go_ret
  exact ⟨rfl, rfl⟩
 ·have d1 : (n == x) = false := by simpa using h1
  rw [if_neg h1]
  by_cases h2 : n = y
  ·have d2 : (n == y) = true := by simpa using h2
   rw [if_pos h2]
   clear h1 h2
   go_enter Tryz.func49, Tryz.ntmps49
   go_wp2
   go_ret
   exact ⟨rfl, rfl⟩
  ·have d2 : (n == y) = false := by simpa using h2
   rw [if_neg h2]
   clear h1 h2
   go_enter Tryz.func49, Tryz.ntmps49
   go_wp2
   go_ret
   exact ⟨rfl, rfl⟩
theorem oth_r64 {x y n : Int} (hx : R64 x) (hy : R64 y) (hn : R64 n) : R64 (Pg.oth x y n) := by
 unfold Pg.oth
 split
 ·exact hy
 ·split
  ·exact hx
  ·exact hn
def SwE (x y : Int) (l : List Pg.Ex) : Prop := ∀ (B : Nat → Prop) (w : World) (a : Option Addr) (c : Nat), ExL B w a c l →
 Calls Tryz.prog 50 #[.slice a l.length c, .int .i64 x, .int .i64 y] w fun e w' => ∃ a' c', e = .returned (.slice a' l.length c') ∧ ExL (Fresh w w') w' a' c' (Pg.swEs (Pg.oth x y) l) ∧ w.grownBy w' none
theorem mid_at {α : Type} (f : α → α) {l L : List α} {k : Nat} (hk : k < l.length) (h : L = (l.take k).map f ++ l.drop k) : L[k]? = some l[k] := by
 rw [h, List.getElem?_append_right (by simp; omega)]
 simp only [List.length_map, List.length_take, List.getElem?_drop]
 rw [show k + (k - min k l.length) = k by omega]
 exact List.getElem?_eq_getElem hk
theorem mid_set {α : Type} (f : α → α) {l L : List α} {k : Nat} (hk : k < l.length) (h : L = (l.take k).map f ++ l.drop k) : L.set k (f l[k]) = (l.take (k + 1)).map f ++ l.drop (k + 1) := by
 rw [h, List.set_append, if_neg (by simp; omega)]
 simp only [List.length_map, List.length_take]
 rw [show k - min k l.length = 0 by omega, ← List.getElem_cons_drop hk, List.set_cons_zero, List.take_succ_eq_append_getElem hk, List.map_append]
 simp
theorem swappedExprs_list {x y : Int} (hx : R64 x) (hy : R64 y) (l : List Pg.Ex) (ih : ∀ z, z ∈ l → SwE x y z.args) : SwE x y l := by
 intro B w a c h
 have hle := h.le
 have hmx := h.max
 have hfi : l.length * 64 ≤ 140737488351232 := h.fits
 unfold maxLen at hmx
 have HC0 : Hid (Calls Tryz.prog 46 #[.slice a l.length c] w fun e w' => ∃ a' c' L, e = .returned (.slice a' l.length c') ∧ L.map EE.x = l ∧ CopG 45 5 cellsE InE w w' l.length (.slice a' l.length c') L) := copyExprs_own l B w a c h
 have HI : Hid (∀ z, z ∈ l → SwE x y z.args) := ih
 have HR : Hid (R64 x ∧ R64 y) := ⟨hx, hy⟩
 have HOt : Hid (∀ n W, Calls Tryz.prog 49 #[.int .i64 n, .int .i64 x, .int .i64 y] W fun e w' => e = .returned (.int .i64 (Pg.oth x y n)) ∧ w' = W) := fun n W => other_any
 clear h ih hx hy
 go_enter Tryz.func50, Tryz.ntmps50
 go_wp2_with (go_at_call 46; refine HC0.out.mono ?_; rintro e w1 ⟨a1, c1, L1, rfl, hm1, hc1⟩; have HM1 : Hid (L1.map EE.x = l) := hm1; have HC1 : Hid (CopG 45 5 cellsE InE w w1 l.length (.slice a1 l.length c1) L1) := hc1; clear hm1 hc1 HC0)
 go_loopw [8] (fun ix wr => ∃ (k : Nat) (L : List EE), ix = .int .i64 k ∧ k ≤ l.length ∧ L.map EE.x = (l.take k).map (Pg.Ex.sw (Pg.oth x y)) ++ l.drop k ∧ CopG 45 5 cellsE InE w wr l.length (.slice a1 l.length c1) L) (fun ix _ => l.length - (intOf ix).toNat)
 case atStart => exact ⟨0, L1, rfl, Nat.zero_le _, by simpa using HM1.out, HC1.out⟩
 case round =>
  obtain ⟨k, L, rfl, hk, hm, hc⟩ := hrel
  by_cases hkn : k < l.length
  ·have hkn' : (k : Int) < l.length := by omega
   obtain ⟨T, hT⟩ : ∃ T, a1 = some ⟨T, 0, none⟩ := by
    rcases hc.own.2 with ⟨e1, e2⟩ | ⟨T, c, cur, e1, _⟩
    ·have := hc.len; omega
    ·injection e1 with e1; exact ⟨T, e1⟩
   subst hT
   have hat := mid_at _ hkn hm
   rw [List.getElem?_map] at hat
   obtain ⟨e0, he0, hex⟩ := Option.map_eq_some_iff.1 hat
   have hown : wr.ownsRow w.heap.size 45 5 (.slice (some ⟨T, 0, none⟩) l.length c1) l.length (L.flatMap cellsE) := by have := hc.own; rw [hc.len] at this; exact this
   have hin := hc.ent k e0 he0
   have hTl := World.ownsRow.lt hc.own T rfl
   obtain ⟨x0, a4, k4⟩ := e0
   dsimp only at hex
   have HIx : Hid (SwE x y x0.args) := by rw [hex]; exact HI.out _ (List.getElem_mem hkn)
   have hms := mid_set _ hkn hm
   rw [← hex] at hms
   have hx0 := hin.1
   have HRn : Hid (R64 x0.n ∧ x0.s.size ≤ reachBytes) := hin.2
   have HCa : Hid (∀ W, Ch wr W [T] → Calls Tryz.prog 50 #[.slice a4 x0.args.length k4, .int .i64 x, .int .i64 y] W fun e w' => ∃ a' c', e = .returned (.slice a' x0.args.length c') ∧ ExL (Fresh W w') w' a' c' (Pg.swEs (Pg.oth x y) x0.args) ∧ W.grownBy w' none) := fun W hW => HIx.out _ W a4 k4 (ExL.ch hx0 hW (fun q hq hm => hq.2.2 (by simp at hm; rw [hm]; rfl)) (fun _ h => h))
   have HCG : Hid (CopG 45 5 cellsE InE w wr l.length (.slice (some ⟨T, 0, none⟩) l.length c1) L) := hc
   have HMS : Hid ((L.map EE.x).set k (x0.sw (Pg.oth x y)) = (l.take (k + 1)).map (Pg.Ex.sw (Pg.oth x y)) ++ l.drop (k + 1)) := hms
   have HE0 : Hid (L[k]? = some ⟨x0, a4, k4⟩) := he0
   have HOw : Hid (wr.ownsRow w.heap.size 45 5 (.slice (some ⟨T, 0, none⟩) l.length c1) l.length (L.flatMap cellsE)) := hown
   have c0 : wr.cell? ⟨T, k * 5, none⟩ = some (.int .i64 x0.op) := own_cell (j := 0) lenE9 hown he0 rfl
   have c2 : wr.cell? ⟨T, k * 5 + 2, none⟩ = some (.int .i64 x0.n) := own_cell (j := 2) lenE9 hown he0 rfl
   have c4 : wr.cell? ⟨T, k * 5 + 4, none⟩ = some (.slice a4 x0.args.length k4) := own_cell (j := 4) lenE9 hown he0 rfl
   have z2 : wr.frozen? ⟨T, k * 5 + 2, none⟩ = false := World.ownsRow.frozenAt hown _
   have z4 : wr.frozen? ⟨T, k * 5 + 4, none⟩ = false := World.ownsRow.frozenAt hown _
   have HTl : Hid (w.heap.size ≤ T ∧ T < wr.heap.size) := hTl
   obtain ⟨n1, W1, hW1⟩ : ∃ n1 W1, ((x0.op == 4) = true ∧ n1 = Pg.oth x y x0.n ∧ W1 = wr.setCell ⟨T, k * 5 + 2, none⟩ (.int .i64 (Pg.oth x y x0.n))) ∨ ((x0.op == 4) = false ∧ n1 = x0.n ∧ W1 = wr) := by
    by_cases h4 : x0.op = 4
    ·exact ⟨_, _, .inl ⟨by simpa using h4, rfl, rfl⟩⟩
    ·exact ⟨_, _, .inr ⟨by simpa using h4, rfl, rfl⟩⟩
   have hX : x0.sw (Pg.oth x y) = .mk x0.op x0.t n1 x0.s (Pg.swEs (Pg.oth x y) x0.args) ∧ R64 n1 ∧ Ch wr W1 [T] ∧ W1.ownsRow w.heap.size 45 5 (.slice (some ⟨T, 0, none⟩) l.length c1) l.length ((L.set k ⟨.mk x0.op x0.t n1 x0.s x0.args, a4, k4⟩).flatMap cellsE) := by
    have e9 : x0.sw (Pg.oth x y) = .mk x0.op x0.t (if x0.op = 4 then Pg.oth x y x0.n else x0.n) x0.s (Pg.swEs (Pg.oth x y) x0.args) := by cases x0; rfl
    rcases hW1 with ⟨h1, h2, h3⟩ | ⟨h1, h2, h3⟩
    ·rw [e9, if_pos (by simpa using h1), h2, h3]
     exact ⟨rfl, oth_r64 HR.out.1 HR.out.2 HRn.out.1, Ch.one (grown_set _ _ _ _) (by simp), own_set lenE9 hown HE0.out (by omega) rfl⟩
    ·rw [e9, if_neg (by simpa using h1), h2, h3]
     exact ⟨rfl, HRn.out.1, Ch.refl _ _, own_same lenE9 hown HE0.out (by cases x0; rfl)⟩
   have HX : Hid (x0.sw (Pg.oth x y) = .mk x0.op x0.t n1 x0.s (Pg.swEs (Pg.oth x y) x0.args) ∧ R64 n1 ∧ Ch wr W1 [T] ∧ W1.ownsRow w.heap.size 45 5 (.slice (some ⟨T, 0, none⟩) l.length c1) l.length ((L.set k ⟨.mk x0.op x0.t n1 x0.s x0.args, a4, k4⟩).flatMap cellsE)) := hX
   have hE1 : (L.set k ⟨.mk x0.op x0.t n1 x0.s x0.args, a4, k4⟩)[k]? = some ⟨.mk x0.op x0.t n1 x0.s x0.args, a4, k4⟩ := by
    rw [List.getElem?_set, if_pos rfl, if_pos ((List.getElem?_eq_some_iff.1 HE0.out).1)]
   have HE1 : Hid ((L.set k ⟨.mk x0.op x0.t n1 x0.s x0.args, a4, k4⟩)[k]? = some (⟨.mk x0.op x0.t n1 x0.s x0.args, a4, k4⟩ : EE)) := hE1
   have HEnd : Hid (∀ w4 a' c', W1.grownBy w4 none → ExL (Fresh W1 w4) w4 a' c' (Pg.swEs (Pg.oth x y) x0.args) → ∃ (k' : Nat) (L : List EE), (Value.int .i64 ((k : Int) + 1)) = .int .i64 (k' : Int) ∧ k' ≤ l.length ∧ L.map EE.x = (l.take k').map (Pg.Ex.sw (Pg.oth x y)) ++ l.drop k' ∧ CopG 45 5 cellsE InE w (w4.setCell ⟨T, k * 5 + 4, none⟩ (.slice a' x0.args.length c')) l.length (.slice (some ⟨T, 0, none⟩) l.length c1) L) := fun w4 a' c' hg hN => by
    have hs1 := HX.out.2.2.1.size
    have hT := HTl.out
    have hsw := hg.size
    have c5 : Ch w4 (w4.setCell ⟨T, k * 5 + 4, none⟩ (.slice a' x0.args.length c')) [T] := Ch.one (grown_set _ _ _ _) (by simp)
    have h9 := own_set (j := 4) (u := .slice a' x0.args.length c') (e' := (⟨.mk x0.op x0.t n1 x0.s (Pg.swEs (Pg.oth x y) x0.args), a', c'⟩ : EE)) lenE9 (HX.out.2.2.2.kept hg (.inr (by simp [Value.ownBlock]))) HE1.out (by omega) (by simp [cellsE, Pg.swEs_len, Pg.Ex.op, Pg.Ex.t, Pg.Ex.n, Pg.Ex.s, Pg.Ex.args])
    rw [List.set_set] at h9
    refine ⟨k + 1, _, by simp, by omega, ?_, CopG.alt @inE_ch HCG.out ((HX.out.2.2.1.trans (Ch.of hg)).trans c5) h9 ⟨ExL.ch hN c5 (fun q hq hm => by simp at hm; have := hq.1; omega) (fun q hq => ⟨by have := hq.1; omega, by have := hq.2; have := c5.size; omega, by have := hq.1; omega⟩), HX.out.2.1, HRn.out.2⟩⟩
    rw [← HMS.out, HX.out.1, List.map_set]
   rcases hW1 with ⟨d4, hn1, hW1⟩ | ⟨d4, hn1, hW1⟩
   all_goals
    clear hown hX hE1 hn1 hat hex hin hx0 hms hc hm he0 hTl
    go_wp2_with (first
     | (go_at_call 49; refine (HOt.out _ _).mono ?_; rintro e w3 ⟨rfl, hw3⟩; rw [hw3]; clear hw3 w3)
     | (go_at_call 50; rw [← hW1]; refine (HCa.out _ HX.out.2.2.1).mono ?_; rintro e w4 ⟨a', c', rfl, hN4, hg4⟩; have H4 : Hid (ExL (Fresh W1 w4) w4 a' c' (Pg.swEs (Pg.oth x y) x0.args) ∧ W1.grownBy w4 none) := ⟨hN4, hg4⟩; have HO4 : Hid (w4.ownsRow w.heap.size 45 5 (.slice (some ⟨T, 0, none⟩) l.length c1) l.length ((L.set k ⟨.mk x0.op x0.t n1 x0.s x0.args, a4, k4⟩).flatMap cellsE)) := HX.out.2.2.2.kept hg4 (.inr (by simp [Value.ownBlock])); have y4 : w4.cell? ⟨T, k * 5 + 4, none⟩ = some (.slice a4 x0.args.length k4) := own_cell (j := 4) lenE9 HO4.out HE1.out rfl; have f4 : w4.frozen? ⟨T, k * 5 + 4, none⟩ = false := World.ownsRow.frozenAt HO4.out _; clear hN4 hg4))
    go_roundw
    case rel => exact HEnd.out _ _ _ H4.out.2 H4.out.1
    case measure => simp [intOf]; omega
  ·obtain rfl : k = l.length := by omega
   obtain ⟨a9, c9, e9, hT1⟩ := CopG.row (cells := cellsE) (In := InE) (by' := 64) (fun e => rfl) hc hfi EE.x (ExAt (Fresh w wr) wr) (fun b o e hcc hin => ExC.at ⟨hcc 0 _ rfl, hcc 1 _ rfl, hcc 2 _ rfl, hcc 3 _ rfl, hcc 4 _ rfl, hin.2.1, hin.2.2, hin.1⟩) (fun e he => @inE_ch _ _ _ _ [] _ he (Ch.refl _ _) (by simp) (fun q hq => ⟨hq.1, hq.2.1⟩))
   injection e9 with e8 _ e7
   rw [hm, List.take_length, List.drop_length, List.append_nil, ← Pg.swEs_map, ← e8, ← e7] at hT1
   have HT1 : Hid (ExL (Fresh w wr) wr a1 c1 (Pg.swEs (Pg.oth x y) l)) := hT1
   have HG9 : Hid (w.grownBy wr none) := hc.gr
   clear hc hT1 hm e8 e7
   go_wp2
   go_ret
   exact ⟨a1, c1, rfl, HT1.out, HG9.out⟩
theorem swappedExprs_any {x y : Int} (hx : R64 x) (hy : R64 y) (l : List Pg.Ex) : SwE x y l := swappedExprs_list hx hy l fun z _ => Pg.Ex.ind (P := fun z => SwE x y z.args) (fun _ _ _ _ args ih => swappedExprs_list hx hy args ih) z
end Go.Proofs.YtpcgkggpmipiaaaGreat
