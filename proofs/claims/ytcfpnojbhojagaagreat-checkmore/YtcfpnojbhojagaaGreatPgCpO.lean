/- Copies of programs, and that they own their rows. -/
import Derived.Test.YtcfpnojbhojagaaGreatPgCpF
namespace Go.Proofs.YtcfpnojbhojagaaGreat
set_option maxRecDepth 100000
set_option maxHeartbeats 32000000
open Go.RowKit
set_option linter.unusedVariables false
structure OwnG {E : Type} (ty : TypeId) (size : Nat) (cells : E → List Value) (In : (Nat → Prop) → World → E → Prop) (lo hi : Nat) (w : World) (v : Value) (L : List E) : Prop where
 own : w.ownsRow lo ty size v L.length (L.flatMap cells)
 up : ∀ q, v.ownBlock = some q → q < hi
 ent : ∀ (i : Nat) (e : E), L[i]? = some e → In (fun q => lo ≤ q ∧ q < hi ∧ v.ownBlock ≠ some q) w e
theorem OwnG.of {E : Type} {ty : TypeId} {size : Nat} {cells : E → List Value} {In : (Nat → Prop) → World → E → Prop} {w wr : World} {k : Nat} {v : Value} {L : List E} (h : CopG ty size cells In w wr k v L) : OwnG ty size cells In w.heap.size wr.heap.size wr v L :=
 ⟨h.own, fun q hq => (World.ownsRow.lt h.own q hq).2, h.ent⟩
theorem ownsRow_chg {w w' : World} {l : List Nat} {base : Nat} {ty : TypeId} {size : Nat} {v : Value} {n : Nat} {cs : List Value} (h : w.ownsRow base ty size v n cs) (g : Ch w w' l) (hl : ∀ q, v.ownBlock = some q → q ∉ l) : w'.ownsRow base ty size v n cs := by
 rcases h.2 with ⟨e1, e2⟩ | ⟨T, c, cur, e1, e2, e3, e4⟩
 ·exact ⟨h.1, .inl ⟨e1, e2⟩⟩
 ·refine ⟨h.1, .inr ⟨T, c, cur, e1, e2, ?_, e4⟩⟩
  rw [g.block T (Array.getElem?_eq_some_iff.1 e3).1 (hl T (by rw [e1]; rfl))]
  exact e3
theorem OwnG.ch {E : Type} {ty : TypeId} {size : Nat} {cells : E → List Value} {In : (Nat → Prop) → World → E → Prop} (hIn : InCh In) {lo hi : Nat} {w w' : World} {v : Value} {L : List E} {l : List Nat} (h : OwnG ty size cells In lo hi w v L) (g : Ch w w' l) (hl : ∀ q, lo ≤ q → q < hi → q ∉ l) : OwnG ty size cells In lo hi w' v L :=
 ⟨ownsRow_chg h.own g (fun q hq => hl q (World.ownsRow.lt h.own q hq).1 (h.up q hq)), h.up, fun i e he => hIn (h.ent i e he) g (fun q hq => hl q hq.1 hq.2.1) (fun _ h => h)⟩
theorem OwnG.row {α E : Type} {ty : TypeId} {size by' : Nat} {cells : E → List Value} {In : (Nat → Prop) → World → E → Prop} (hs : ∀ e, (cells e).length = size) {lo hi : Nat} {wr : World} {v : Value} {L : List E} (h : OwnG ty size cells In lo hi wr v L) (hk : L.length * by' ≤ reachBytes) (val : E → α) (B : Nat → Prop) (hB : ∀ q, lo ≤ q → q < hi → B q) (Q : Nat → Nat → α → Prop)
  (hQ : ∀ (b o : Nat) (e : E), (∀ j u, (cells e)[j]? = some u → wr.cell? ⟨b, o + j, none⟩ = some u) → In (fun q => lo ≤ q ∧ q < hi ∧ v.ownBlock ≠ some q) wr e → Q b o (val e)) :
  ∃ a c, v = .slice a L.length c ∧ RowL size by' B Q a c (L.map val) := by
 rcases h.own.2 with ⟨rfl, h0⟩ | ⟨g, c, cur, rfl, hb, hg, hc, hcm, _⟩
 ·have hn : L = [] := List.length_eq_zero_iff.1 h0
  subst hn
  exact ⟨none, 0, rfl, fun _ => ⟨rfl, rfl⟩, Nat.le_refl _, Nat.zero_le _, by simp, .inl rfl⟩
 ·refine ⟨_, c, rfl, (fun h => by cases h), by simpa using hc, hcm, by simpa using hk, .inr ⟨g, 0, rfl, hB g hb (h.up g rfl), fun i x hx => ?_⟩⟩
  rw [List.getElem?_map] at hx
  obtain ⟨e, he, rfl⟩ := Option.map_eq_some_iff.1 hx
  have hi : i < L.length := (List.getElem?_eq_some_iff.1 he).1
  have hee : L[i] = e := (List.getElem?_eq_some_iff.1 he).2
  refine hQ _ _ _ (fun j u hu => ?_) (h.ent i e he)
  have hj : j < size := by rw [← hs e]; exact (List.getElem?_eq_some_iff.1 hu).1
  rw [Nat.zero_add, World.ownsRow.cellAt h.own (i * size + j) (by
   have : (i + 1) * size ≤ L.length * size := Nat.mul_le_mul_right _ hi
   rw [Nat.succ_mul] at this
   omega), flat_at hs L i j hi hj, hee]
  exact hu
theorem ownsRow_low {w : World} {base b2 : Nat} {ty : TypeId} {size : Nat} {v : Value} {n : Nat} {cs : List Value} (h : w.ownsRow base ty size v n cs) (hb : b2 ≤ base) : w.ownsRow b2 ty size v n cs := by
 rcases h.2 with ⟨e1, e2⟩ | ⟨T, c, cur, e1, e2, e3⟩
 ·exact ⟨h.1, .inl ⟨e1, e2⟩⟩
 ·exact ⟨h.1, .inr ⟨T, c, cur, e1, by omega, e3⟩⟩
theorem OwnG.lower9 {E : Type} {ty : TypeId} {size : Nat} {cells : E → List Value} {In : (Nat → Prop) → World → E → Prop} (hIn : InCh In) {lo lo2 hi hi2 : Nat} {w : World} {v : Value} {L : List E} (h : OwnG ty size cells In lo hi w v L) (hl : lo2 ≤ lo) (hh : hi ≤ hi2) : OwnG ty size cells In lo2 hi2 w v L :=
 ⟨ownsRow_low h.own hl, fun q hq => Nat.lt_of_lt_of_le (h.up q hq) hh, fun i e he => @hIn _ _ _ _ [] _ (h.ent i e he) (Ch.refl _ _) (by simp) (fun q hq => ⟨by have := hq.1; omega, by have := hq.2.1; omega, hq.2.2⟩)⟩
abbrev OTp (lo hi : Nat) (w : World) (v : Value) (L : List TE) : Prop := OwnG 61 4 cellsTE InTE lo hi w v L
abbrev OFn (lo hi : Nat) (w : World) (v : Value) (L : List FE) : Prop := OwnG 53 4 cellsFE InFE lo hi w v L
theorem OTp.row {lo hi : Nat} {w : World} {v : Value} {L : List TE} (h : OTp lo hi w v L) (hk : L.length * 48 ≤ reachBytes) {B : Nat → Prop} (hB : ∀ q, lo ≤ q → q < hi → B q) : ∃ a c, v = .slice a L.length c ∧ TpL B w a c (L.map TE.x) :=
 OwnG.row (cells := cellsTE) (In := InTE) (by' := 48) (fun e => rfl) h hk TE.x B hB (TpAt B w) (fun b o e hcc hin => ⟨e.a1, e.k1, hcc 0 _ rfl, hcc 1 _ rfl, hcc 2 _ rfl, hcc 3 _ rfl, @inTE_ch _ _ _ _ [] _ hin (Ch.refl _ _) (by simp) (fun q hq => hB q hq.1 hq.2.1)⟩)
theorem OFn.row {lo hi : Nat} {w : World} {v : Value} {L : List FE} (h : OFn lo hi w v L) (hk : L.length * 80 ≤ reachBytes) {B : Nat → Prop} (hB : ∀ q, lo ≤ q → q < hi → B q) : ∃ a c, v = .slice a L.length c ∧ FnL B w a c (L.map FE.x) :=
 OwnG.row (cells := cellsFE) (In := InFE) (by' := 80) (fun e => rfl) h hk FE.x B hB (FnAt B w) (fun b o e hcc hin => by
  have h9 := @inFE_ch _ B _ _ [] _ hin (Ch.refl _ _) (by simp) (fun q hq => hB q hq.1 hq.2.1)
  exact ⟨e.a1, e.a2, e.a3, e.k1, e.k2, e.k3, hcc 0 _ rfl, hcc 1 _ rfl, hcc 2 _ rfl, hcc 3 _ rfl, h9.1, h9.2.1, h9.2.2⟩)
theorem copyTypes_own (l : List Pg.Tp) : ∀ (B : Nat → Prop) (w : World) (a : Option Addr) (c : Nat), (∀ q, B q → q < w.heap.size) → TpL B w a c l →
 Calls Tryz.prog 25 #[.slice a l.length c] w fun e w' => ∃ a' c' L, e = .returned (.slice a' l.length c') ∧ L.map TE.x = l ∧ OTp w.heap.size w'.heap.size w' (.slice a' l.length c') L ∧ w.grownBy w' none := by
 intro B w a c hB h
 have hle := h.le
 have hmx := h.max
 have hfi : l.length * 48 ≤ 140737488351232 := h.fits
 unfold maxLen at hmx
 have HL : Hid (TpL B w a c l) := h
 have HB : Hid (∀ q, B q → q < w.heap.size) := hB
 clear h hB
 go_enter Tryz.func25, Tryz.ntmps25
 go_wp2_with fail
 go_loopw [3, 4] (fun v ix wr => ∃ (k : Nat) (L : List TE), ix = .int .i64 k ∧ k ≤ l.length ∧ L.map TE.x = l.take k ∧ CopG 61 4 cellsTE InTE w wr k v L) (fun _ ix _ => l.length - (intOf ix).toNat)
 case atStart => exact ⟨0, [], rfl, Nat.zero_le _, rfl, CopG.start _ _ _ _ _⟩
 case round =>
  obtain ⟨k, L, rfl, hk, hm, hc⟩ := hrel
  have HC : Hid (CopG 61 4 cellsTE InTE w wr k _ L) := hc
  have HM : Hid (L.map TE.x = l.take k) := hm
  clear hm
  by_cases hkn : k < l.length
  ·have hkn' : (k : Int) < l.length := by omega
   obtain ⟨b, o, rfl, hb, hx⟩ := (TpL.grow HL.out hc.gr).at hkn
   obtain ⟨a1, k1, he⟩ := hx |> id
   have HCp := copyType_any (fun q hq => Nat.lt_of_lt_of_le (HB.out q hq) hc.gr.size) he.f
   have c0 := he.c0
   have c1 := he.c1
   have c2 := he.c2
   have c3 := he.c3
   have hlen := hc.len
   have hsz := hc.gr.size
   clear hx he hc
   have HT : Hid (l.take (k + 1) = l.take k ++ [l[k]]) := List.take_succ_eq_append_getElem hkn
   generalize l[k] = x at *
   have HCp : Hid (Calls Tryz.prog 52 #[.agg #[.int .i64 x.kind, .int .i64 x.elem, .int .i64 x.n, .slice a1 x.fields.length k1]] wr fun e w' => ∃ a1' k1', e = .returned (.agg #[.int .i64 x.kind, .int .i64 x.elem, .int .i64 x.n, .slice a1' x.fields.length k1']) ∧ (NumL (Fresh wr w') w' a1' k1' x.fields) ∧ wr.grownBy w' none) := HCp
   go_wp2_with (first
    | (go_at_call 52; refine HCp.out.mono ?_; rintro e w4 ⟨a1', k1', rfl, hN4, hg4⟩; have H4 : Hid ((NumL (Fresh wr w4) w4 a1' k1' x.fields) ∧ wr.grownBy w4 none) := ⟨hN4, hg4⟩; have hs4 := hg4.size; clear hN4 hg4)
    | (at_builtin; refine wp_appTE rfl _ _ rfl w.heap.size u3 L ⟨x, a1', k1'⟩ rfl (World.ownsRow.kept HC.out.own H4.out.2 (Classical.em _)) rfl rfl (by omega) (by omega) ?_; intro v6 w6 o6 g6 b6))
   go_roundw
   case rel => exact ⟨k + 1, L ++ [⟨x, a1', k1'⟩], by go_num, by omega, by rw [List.map_append, HM.out, HT.out]; rfl, CopG.step (In := InTE) @inTE_ch HC.out H4.out.2 (show InTE (Fresh wr w4) w4 ⟨x, a1', k1'⟩ from H4.out.1) o6 g6 b6⟩
   case measure => simp [intOf]; omega
  ·obtain rfl : k = l.length := by omega
   obtain ⟨a1, c1, hu3, _⟩ := OTp.row (B := fun _ => True) (OwnG.of hc) (by rw [hc.len]; exact hfi) (fun _ _ _ => trivial)
   rw [hc.len] at hu3
   subst hu3
   have hm9 := HM.out
   rw [List.take_length] at hm9
   have HM9 : Hid (L.map TE.x = l) := hm9
   have HO9 : Hid (OTp w.heap.size wr.heap.size wr (.slice a1 l.length c1) L) := OwnG.of hc
   clear hc hm9
   go_wp2
   go_ret
   exact ⟨a1, c1, L, rfl, HM9.out, HO9.out, HC.out.gr⟩
theorem copyFuncs_own (l : List Pg.Fn) : ∀ (B : Nat → Prop) (w : World) (a : Option Addr) (c : Nat), (∀ q, B q → q < w.heap.size) → FnL B w a c l →
 Calls Tryz.prog 26 #[.slice a l.length c] w fun e w' => ∃ a' c' L, e = .returned (.slice a' l.length c') ∧ L.map FE.x = l ∧ OFn w.heap.size w'.heap.size w' (.slice a' l.length c') L ∧ w.grownBy w' none := by
 intro B w a c hB h
 have hle := h.le
 have hmx := h.max
 have hfi : l.length * 80 ≤ 140737488351232 := h.fits
 unfold maxLen at hmx
 have HL : Hid (FnL B w a c l) := h
 have HB : Hid (∀ q, B q → q < w.heap.size) := hB
 clear h hB
 go_enter Tryz.func26, Tryz.ntmps26
 go_wp2_with fail
 go_loopw [3, 4] (fun v ix wr => ∃ (k : Nat) (L : List FE), ix = .int .i64 k ∧ k ≤ l.length ∧ L.map FE.x = l.take k ∧ CopG 53 4 cellsFE InFE w wr k v L) (fun _ ix _ => l.length - (intOf ix).toNat)
 case atStart => exact ⟨0, [], rfl, Nat.zero_le _, rfl, CopG.start _ _ _ _ _⟩
 case round =>
  obtain ⟨k, L, rfl, hk, hm, hc⟩ := hrel
  have HC : Hid (CopG 53 4 cellsFE InFE w wr k _ L) := hc
  have HM : Hid (L.map FE.x = l.take k) := hm
  clear hm
  by_cases hkn : k < l.length
  ·have hkn' : (k : Int) < l.length := by omega
   obtain ⟨b, o, rfl, hb, hx⟩ := (FnL.grow HL.out hc.gr).at hkn
   obtain ⟨a1, a2, a3, k1, k2, k3, he⟩ := hx |> id
   have HCp := copyFunc_any (fun q hq => Nat.lt_of_lt_of_le (HB.out q hq) hc.gr.size) he.l he.r he.b
   have c0 := he.c0
   have c1 := he.c1
   have c2 := he.c2
   have c3 := he.c3
   have hlen := hc.len
   have hsz := hc.gr.size
   clear hx he hc
   have HT : Hid (l.take (k + 1) = l.take k ++ [l[k]]) := List.take_succ_eq_append_getElem hkn
   generalize l[k] = x at *
   have HCp : Hid (Calls Tryz.prog 53 #[.agg #[.int .i64 x.params, .slice a1 x.locals.length k1, .slice a2 x.results.length k2, .slice a3 x.body.length k3]] wr fun e w' => ∃ a1' k1' a2' k2' a3' k3', e = .returned (.agg #[.int .i64 x.params, .slice a1' x.locals.length k1', .slice a2' x.results.length k2', .slice a3' x.body.length k3']) ∧ (NumL (Fresh wr w') w' a1' k1' x.locals ∧ NumL (Fresh wr w') w' a2' k2' x.results ∧ StL (Fresh wr w') w' a3' k3' x.body) ∧ wr.grownBy w' none) := HCp
   go_wp2_with (first
    | (go_at_call 53; refine HCp.out.mono ?_; rintro e w4 ⟨a1', k1', a2', k2', a3', k3', rfl, hN4, hg4⟩; have H4 : Hid ((NumL (Fresh wr w4) w4 a1' k1' x.locals ∧ NumL (Fresh wr w4) w4 a2' k2' x.results ∧ StL (Fresh wr w4) w4 a3' k3' x.body) ∧ wr.grownBy w4 none) := ⟨hN4, hg4⟩; have hs4 := hg4.size; clear hN4 hg4)
    | (at_builtin; refine wp_appFE rfl _ _ rfl w.heap.size u3 L ⟨x, a1', k1', a2', k2', a3', k3'⟩ rfl (World.ownsRow.kept HC.out.own H4.out.2 (Classical.em _)) rfl rfl (by omega) (by omega) ?_; intro v6 w6 o6 g6 b6))
   go_roundw
   case rel => exact ⟨k + 1, L ++ [⟨x, a1', k1', a2', k2', a3', k3'⟩], by go_num, by omega, by rw [List.map_append, HM.out, HT.out]; rfl, CopG.step (In := InFE) @inFE_ch HC.out H4.out.2 ⟨H4.out.1.1, H4.out.1.2.1, H4.out.1.2.2⟩ o6 g6 b6⟩
   case measure => simp [intOf]; omega
  ·obtain rfl : k = l.length := by omega
   obtain ⟨a1, c1, hu3, _⟩ := OFn.row (B := fun _ => True) (OwnG.of hc) (by rw [hc.len]; exact hfi) (fun _ _ _ => trivial)
   rw [hc.len] at hu3
   subst hu3
   have hm9 := HM.out
   rw [List.take_length] at hm9
   have HM9 : Hid (L.map FE.x = l) := hm9
   have HO9 : Hid (OFn w.heap.size wr.heap.size wr (.slice a1 l.length c1) L) := OwnG.of hc
   clear hc hm9
   go_wp2
   go_ret
   exact ⟨a1, c1, L, rfl, HM9.out, HO9.out, HC.out.gr⟩
theorem OTp.lower {lo lo2 hi : Nat} {w : World} {v : Value} {L : List TE} (h : OTp lo hi w v L) (hl : lo2 ≤ lo) : OTp lo2 hi w v L := OwnG.lower9 @inTE_ch h hl (Nat.le_refl _)
theorem OFn.upper {lo hi hi2 : Nat} {w : World} {v : Value} {L : List FE} (h : OFn lo hi w v L) (hh : hi ≤ hi2) : OFn lo hi2 w v L := OwnG.lower9 @inFE_ch h (Nat.le_refl _) hh
theorem copyProgram_own {B : Nat → Prop} {w : World} {x : Pg.Pr} {a1 a2 : Option Addr} {k1 k2 : Nat} (hB : ∀ q, B q → q < w.heap.size)  (h1 : TpL B w a1 k1 x.types) (h2 : FnL B w a2 k2 x.funcs) :
  Calls Tryz.prog 9 #[.agg #[.slice a1 x.types.length k1, .slice a2 x.funcs.length k2]] w fun e w' => ∃ a1' k1' a2' k2' L1 L2 m, e = .returned (.agg #[.slice a1' x.types.length k1', .slice a2' x.funcs.length k2']) ∧ (L1.map TE.x = x.types ∧ L2.map FE.x = x.funcs ∧ OTp w.heap.size m w' (.slice a1' x.types.length k1') L1 ∧ OFn m w'.heap.size w' (.slice a2' x.funcs.length k2') L2 ∧ w.heap.size ≤ m ∧ m ≤ w'.heap.size) ∧ w.grownBy w' none := by
 obtain ⟨W3, hW3⟩ : ∃ W3, W3 = ((w.alloc (.cells #[.slice a1 x.types.length k1, .slice a2 x.funcs.length k2] 27)).alloc (.cells #[.slice none 0 0, .slice none 0 0] 27)).alloc (.cells #[.slice a1 x.types.length k1, .slice a2 x.funcs.length k2] 27) := ⟨_, rfl⟩
 have hg3 : w.grownBy W3 none := by rw [hW3]; exact ga (ga (World.grownBy_alloc _ _ _) _) _
 have hs3 : W3.heap.size = w.heap.size + 3 := by rw [hW3]; simp
 have H1 : Hid (∀ W, Ch W3 W [w.heap.size + 2] → Calls Tryz.prog 25 #[.slice a1 x.types.length k1] W fun e w' => ∃ a' c' L, e = .returned (.slice a' x.types.length c') ∧ (L.map TE.x = x.types ∧ OTp W.heap.size w'.heap.size w' (.slice a' x.types.length c') L) ∧ W.grownBy w' none) := fun W hc => Calls.mono (copyTypes_own x.types B W a1 k1 (fun q hq => Nat.lt_of_lt_of_le (hB q hq) (Nat.le_trans hg3.size hc.size)) (TpL.ch (TpL.grow h1 hg3) hc (fun q hq => by have := hB q hq; simp; omega) (fun _ h => h))) (fun e w' h9 => by obtain ⟨a', c', L, e1, e2, e3, e4⟩ := h9; exact ⟨a', c', L, e1, ⟨e2, e3⟩, e4⟩)
 have H2 : Hid (∀ W, Ch W3 W [w.heap.size + 2] → Calls Tryz.prog 26 #[.slice a2 x.funcs.length k2] W fun e w' => ∃ a' c' L, e = .returned (.slice a' x.funcs.length c') ∧ (L.map FE.x = x.funcs ∧ OFn W.heap.size w'.heap.size w' (.slice a' x.funcs.length c') L) ∧ W.grownBy w' none) := fun W hc => Calls.mono (copyFuncs_own x.funcs B W a2 k2 (fun q hq => Nat.lt_of_lt_of_le (hB q hq) (Nat.le_trans hg3.size hc.size)) (FnL.ch (FnL.grow h2 hg3) hc (fun q hq => by have := hB q hq; simp; omega) (fun _ h => h))) (fun e w' h9 => by obtain ⟨a', c', L, e1, e2, e3, e4⟩ := h9; exact ⟨a', c', L, e1, ⟨e2, e3⟩, e4⟩)
 have HG3 : Hid (w.grownBy W3 none) := hg3
 have HW3 : Hid (W3 = ((w.alloc (.cells #[.slice a1 x.types.length k1, .slice a2 x.funcs.length k2] 27)).alloc (.cells #[.slice none 0 0, .slice none 0 0] 27)).alloc (.cells #[.slice a1 x.types.length k1, .slice a2 x.funcs.length k2] 27)) := hW3
 have K : Hid ((∀ j v, (#[.slice a1 x.types.length k1, .slice a2 x.funcs.length k2] : Array Value)[j]? = some v → W3.cell? ⟨w.heap.size + 2, j, none⟩ = some v) ∧ (∀ q, W3.frozen? ⟨w.heap.size + 2, q, none⟩ = false) ∧ (∀ j v, (#[.slice none 0 0, .slice none 0 0] : Array Value)[j]? = some v → W3.cell? ⟨w.heap.size + 1, j, none⟩ = some v) ∧ (∀ q, W3.frozen? ⟨w.heap.size + 1, q, none⟩ = false) ∧ (∀ j v, (#[.slice a1 x.types.length k1, .slice a2 x.funcs.length k2] : Array Value)[j]? = some v → W3.cell? ⟨w.heap.size, j, none⟩ = some v)) := by
  rw [hW3]
  refine ⟨fun j v hv => ?_, fun q => ?_, fun j v hv => ?_, fun q => ?_, fun j v hv => ?_⟩
  ·rw [← hv]; exact cells_new _ _ (by simp) _
  ·exact fzs_new _ _ (by simp) _
  ·exact (Ch.of (l := []) (World.grownBy_alloc _ _ _)).cell ((cells_new _ _ (by simp) _).trans hv) (by simp)
  ·exact frozenK (l := []) (Ch.of (World.grownBy_alloc _ _ _)) (by simp) (by simp) (fzs_new _ _ (by simp) _)
  ·exact (Ch.of (l := []) (ga (World.grownBy_alloc _ _ _) _)).cell ((cells_new _ _ rfl _).trans hv) (by simp)
 clear h1 h2 hg3 hW3 hB
 go_enter Tryz.func9, Tryz.ntmps9
 go_wp2_with (first
  | (go_at_call 25; rw [← HW3.out]; refine (H1.out _ (Ch.refl _ _)).mono ?_; rintro e w1 ⟨a1', k1', L1, rfl, hN, hg⟩; have N1 : Hid ((L1.map TE.x = x.types ∧ OTp W3.heap.size w1.heap.size w1 (.slice a1' x.types.length k1') L1) ∧ W3.grownBy w1 none) := ⟨hN, hg⟩; have D1 : Hid (Ch W3 w1 [w.heap.size + 2]) := (Ch.refl _ _).trans (Ch.of hg); have hz1 := D1.out.size; have m10 := (Ch.of (l := []) hg).cell (K.out.1 0 _ rfl) (by simp); have m11 := (Ch.of (l := []) hg).cell (K.out.1 1 _ rfl) (by simp); have Z1 : Hid (∀ q, w1.frozen? ⟨w.heap.size + 2, q, none⟩ = false) := fun q => frozenK (l := []) (Ch.of hg) (by omega) (by simp) (K.out.2.1 q); have z1 := Z1.out 0; have b1 := D1.out.cell (K.out.2.2.2.2 1 _ rfl) (by simp); have C1 : Hid (Ch W3 (w1.setCell ⟨w.heap.size + 2, 0, none⟩ (.slice a1' x.types.length k1')) [w.heap.size + 2]) := D1.out.trans (Ch.one (grown_set _ _ _ _) (by simp)); clear hN hg H1)
  | (go_at_call 26; refine (H2.out _ C1.out).mono ?_; rintro e w2 ⟨a2', k2', L2, rfl, hN, hg⟩; have N2 : Hid ((L2.map FE.x = x.funcs ∧ OFn (w1.setCell ⟨w.heap.size + 2, 0, none⟩ (.slice a1' x.types.length k1')).heap.size w2.heap.size w2 (.slice a2' x.funcs.length k2') L2) ∧ (w1.setCell ⟨w.heap.size + 2, 0, none⟩ (.slice a1' x.types.length k1')).grownBy w2 none) := ⟨hN, hg⟩; have D2 : Hid (Ch W3 w2 [w.heap.size + 2]) := C1.out.trans (Ch.of hg); have hz2 := D2.out.size; have m20 := (Ch.of (l := []) hg).cell (World.cell?_setCell_same _ _ _ m10) (by simp); have m21 := (Ch.of (l := []) hg).cell ((World.cell?_setCell_other _ _ _ _ (by simp)).trans m11) (by simp); have Z2 : Hid (∀ q, w2.frozen? ⟨w.heap.size + 2, q, none⟩ = false) := fun q => frozenK (l := []) (Ch.of hg) (by simp; omega) (by simp) (by rw [World.frozen?_setCell]; exact Z1.out q); have z2 := Z2.out 1; have C2 : Hid (Ch W3 (w2.setCell ⟨w.heap.size + 2, 1, none⟩ (.slice a2' x.funcs.length k2')) [w.heap.size + 2]) := D2.out.trans (Ch.one (grown_set _ _ _ _) (by simp)); have r0 := D2.out.cell (K.out.2.2.1 0 _ rfl) (by simp); have y0 := frozenK D2.out (by omega) (by simp) (K.out.2.2.2.1 0); have r1 := D2.out.cell (K.out.2.2.1 1 _ rfl) (by simp); have y1 := frozenK D2.out (by omega) (by simp) (K.out.2.2.2.1 1); clear hN hg H2))
 refine bodyPost_ret (by simp [results, Tryz.results9, go_sem, r0, r1]; try rfl) rfl ?_
 generalize hw9 : World.setCell (World.setCell _ _ _) _ _ = w9
 have c9 : Ch w2 w9 [w.heap.size + 1, w.heap.size + 2] := by
  rw [← hw9]
  exact (((Ch.one (grown_set _ _ _ _) (by simp)).trans (Ch.one (grown_set _ _ _ _) (by simp))).trans (Ch.one (grown_set _ _ _ _) (by simp)))
 have s9 := c9.size
 have e2 : Ch w2 w9 [w.heap.size + 1, w.heap.size + 2] := c9
 have e1 : Ch w1 w9 [w.heap.size + 1, w.heap.size + 2] := ((Ch.one (grown_set w1 (w.heap.size + 2) 0 (.slice a1' x.types.length k1')) (by simp)).trans (Ch.of N2.out.2)).trans e2
 have g1 := N1.out.2.size
 try simp only [World.size_setCell] at g1
 have g2 := N2.out.2.size
 try simp only [World.size_setCell] at g2
 have hz0 : W3.heap.size ≤ W3.heap.size := Nat.le_refl _
 have hq1 := N1.out.1.2.ch @inTE_ch e1 (fun q h1 h2 hm => by simp at hm; omega)
 have hq2 := N2.out.1.2.ch @inFE_ch e2 (fun q h1 h2 hm => by (try simp only [World.size_setCell] at h1); simp at hm; omega)
 try simp only [World.size_setCell] at hq2
 refine ⟨a1', k1', a2', k2', L1, L2, w1.heap.size, rfl, ⟨N1.out.1.1, N2.out.1.1, OTp.lower hq1 (by omega), OFn.upper hq2 s9, by omega, by omega⟩, ?_⟩
 exact ((Ch.of HG3.out).trans (((D2.out).mono (fun q _ hq => by simp at hq; simp [hq])).trans c9)).nil (by simp)
end Go.Proofs.YtcfpnojbhojagaaGreat
