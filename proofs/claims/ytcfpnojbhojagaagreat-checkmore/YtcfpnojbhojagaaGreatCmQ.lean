/- The copy that has grown by a type and a function is the program more. -/
import Derived.Test.YtcfpnojbhojagaaGreatG25
namespace Go.Proofs.YtcfpnojbhojagaaGreat
open Go.RowKit
set_option linter.unusedVariables false
set_option maxRecDepth 100000
set_option maxHeartbeats 8000000
structure CmF (p : Pg.Pr) : Prop where
 rm : Rm ⟨false, 0, 0, 0⟩ [] p.dl
 nt : p.types.length ≤ 1000000
 en : p.dl.en.length ≤ 900000000
 wt : p.w ≤ 2500
structure CmT (p : Pg.Pr) : Prop where
 ok : Ck.takeP p = .ok ()
theorem CmF.of {B : Nat → Prop} {w : World} {p : Pg.Pr} {a1 a2 : Option Addr} {k1 k2 : Nat} (h : PrC B w p a1 a2 k1 k2) (hw : p.w ≤ 2500) : CmF p := by
 obtain ⟨b1, b2, b3, b4, b5⟩ := pr_rm h (by omega)
 obtain ⟨q1, q2, q3, q4⟩ := Pg.pr_bd p h.f.rr (by omega)
 obtain ⟨a1, _, _⟩ := Pg.ts_bd p.types
 obtain ⟨c1, _, _, _, _⟩ := Pg.fs_bd p.funcs h.f.rr
 have hw9 := hw
 unfold Pg.Pr.w at hw
 exact ⟨b1, by omega, by omega, by omega⟩
theorem wp_appRet {ops : Array Oper} {rest : List Oper} {o : Oper} {a : Act} {Q : Exit → Act → World → Prop} {W : World} (hgd : o.guard = none) (s y : Operand)
  (ho : o.op = .call { callee := .builtin .append, args := #[s, y], argTypes := #[25, 25] }) (base : Nat) (v : Value) (L : List FE) (sb : Nat) (hs : a.eval s = v) (hown : W.ownsRow base 53 4 v L.length (L.flatMap cellsFE))
  {nb : Nat} (hx : a.eval y = .slice (some ⟨nb, 0, none⟩) 1 1) (hnb : nb = W.heap.size) (hl : (L.length + 1) * 80 ≤ 140737488351232) (hb : base ≤ W.heap.size)
  (h : ∀ v' w', w'.ownsRow base 53 4 v' (L.length + 1) (L.flatMap cellsFE ++ cellsFE ⟨Pg.ret, none, 0, none, 0, some ⟨sb, 0, none⟩, 1⟩) → W.grownBy w' v.ownBlock → (∀ q, v'.ownBlock = some q → v.ownBlock = some q ∨ W.heap.size ≤ q) → wpList Tryz.prog ops Q rest (a.put o.dst v') w') :
  wpList Tryz.prog ops Q (o :: rest) a (W.alloc (Obj.cells #[.int .i64 0, .slice none 0 0, .slice none 0 0, .slice (some ⟨sb, 0, none⟩) 1 1] 53)) :=
 wp_appFE hgd s y ho base v L ⟨Pg.ret, none, 0, none, 0, some ⟨sb, 0, none⟩, 1⟩ hs hown hx hnb hl hb h
theorem wp_appU32 {ops : Array Oper} {rest : List Oper} {o : Oper} {a : Act} {Q : Exit → Act → World → Prop} {W : World} (hgd : o.guard = none) (s y : Operand)
  (ho : o.op = .call { callee := .builtin .append, args := #[s, y], argTypes := #[24, 24] }) (base : Nat) (v : Value) (L : List TE) (hs : a.eval s = v) (hown : W.ownsRow base 61 4 v L.length (L.flatMap cellsTE))
  {nb : Nat} (hx : a.eval y = .slice (some ⟨nb, 0, none⟩) 1 1) (hnb : nb = W.heap.size) (hl : (L.length + 1) * 48 ≤ 140737488351232) (hb : base ≤ W.heap.size)
  (h : ∀ v' w', w'.ownsRow base 61 4 v' (L.length + 1) (L.flatMap cellsTE ++ cellsTE ⟨Pg.u32, none, 0⟩) → W.grownBy w' v.ownBlock → (∀ q, v'.ownBlock = some q → v.ownBlock = some q ∨ W.heap.size ≤ q) → wpList Tryz.prog ops Q rest (a.put o.dst v') w') :
  wpList Tryz.prog ops Q (o :: rest) a (W.alloc (Obj.cells #[.int .i64 8, .int .i64 0, .int .i64 0, .slice none 0 0] 61)) :=
 wp_appTE hgd s y ho base v L ⟨Pg.u32, none, 0⟩ hs hown hx hnb hl hb h
structure CmO (lo mm : Nat) (w : World) (p : Pg.Pr) (a5 a6 : Option Addr) (n k5 m k6 : Nat) (L1 : List TE) (L2 : List FE) : Prop where
 e1 : L1.map TE.x = p.types
 e2 : L2.map FE.x = p.funcs
 t : OTp lo mm w (.slice a5 n k5) L1
 f : OFn mm w.heap.size w (.slice a6 m k6) L2
 lo : lo ≤ mm
 mm4 : mm ≤ w.heap.size
 l1 : L1.length = n
 l2 : L2.length = m
def cmW (w4 : World) (a5 a6 : Option Addr) (n k5 m k6 : Nat) : World := (w4.alloc (Obj.cells #[.slice a5 n k5, .slice a6 m k6] 27)).alloc (Obj.cells #[.int .i64 7, .int .i64 0, .slice none 0 0, .slice none 0 0, .slice none 0 0, .slice none 0 0] 51)
structure CmA (mm : Nat) (w4 w6 : World) (a5 : Option Addr) (n k5 : Nat) (a6 : Option Addr) (m k6 : Nat) (L2 : List FE) (T6 c6 : Nat) : Prop where
 own : w6.ownsRow mm 53 4 (.slice (some ⟨T6, 0, none⟩) (m + 1) c6) (L2.length + 1) (L2.flatMap cellsFE ++ cellsFE ⟨Pg.ret, none, 0, none, 0, some ⟨w4.heap.size + 1, 0, none⟩, 1⟩)
 gr : (cmW w4 a5 a6 n k5 m k6).grownBy w6 (Value.slice a6 m k6).ownBlock
 bl : ∀ q, (Value.slice (some ⟨T6, 0, none⟩) (m + 1) c6).ownBlock = some q → (Value.slice a6 m k6).ownBlock = some q ∨ (cmW w4 a5 a6 n k5 m k6).heap.size ≤ q
 pb : Bk w6 w4.heap.size 27 [.slice a5 n k5, .slice a6 m k6]
theorem CmA.of {lo mm : Nat} {w4 w6 : World} {p : Pg.Pr} {a5 a6 : Option Addr} {n k5 m k6 : Nat} {L1 : List TE} {L2 : List FE} {T6 c6 : Nat} (h : CmO lo mm w4 p a5 a6 n k5 m k6 L1 L2) (o6 : w6.ownsRow mm 53 4 (.slice (some ⟨T6, 0, none⟩) (m + 1) c6) (L2.length + 1) (L2.flatMap cellsFE ++ cellsFE ⟨Pg.ret, none, 0, none, 0, some ⟨w4.heap.size + 1, 0, none⟩, 1⟩)) (g6 : (cmW w4 a5 a6 n k5 m k6).grownBy w6 (Value.slice a6 m k6).ownBlock) (b6 : ∀ q, (Value.slice (some ⟨T6, 0, none⟩) (m + 1) c6).ownBlock = some q → (Value.slice a6 m k6).ownBlock = some q ∨ (cmW w4 a5 a6 n k5 m k6).heap.size ≤ q) : CmA mm w4 w6 a5 n k5 a6 m k6 L2 T6 c6 := by
 refine ⟨o6, g6, b6, ?_⟩
 have h1 : Bk (cmW w4 a5 a6 n k5 m k6) w4.heap.size 27 [.slice a5 n k5, .slice a6 m k6] := Bk.al (Bk.new _ _ _)
 refine h1.ch (grown_cho g6) fun hm => ?_
 have h2 := h.f.up w4.heap.size (by simpa using hm)
 omega
theorem CmA.cells {mm : Nat} {w4 w6 : World} {a5 a6 : Option Addr} {n k5 m k6 : Nat} {L2 : List FE} {T6 c6 : Nat} (h : CmA mm w4 w6 a5 n k5 a6 m k6 L2 T6 c6) : w6.cell? ⟨w4.heap.size, 0, none⟩ = some (.slice a5 n k5) ∧ w6.cell? ⟨w4.heap.size, 1, none⟩ = some (.slice a6 m k6) ∧ w6.frozen? ⟨w4.heap.size, 0, none⟩ = false ∧ w6.frozen? ⟨w4.heap.size, 1, none⟩ = false :=
 ⟨h.pb.cell (i := 0) rfl, h.pb.cell (i := 1) rfl, h.pb.frozen 0, h.pb.frozen 1⟩
theorem own_row {α E : Type} {ty : TypeId} {size by' : Nat} {cells : E → List Value} {In : (Nat → Prop) → World → E → Prop} (hs : ∀ e, (cells e).length = size) {lo : Nat} {wr : World} {v : Value} {L : List E} (own : wr.ownsRow lo ty size v L.length (L.flatMap cells)) (P : Nat → Prop) (ent : ∀ (i : Nat) (e : E), L[i]? = some e → In P wr e) (hk : L.length * by' ≤ reachBytes) (val : E → α) (B : Nat → Prop) (hB : ∀ q, v.ownBlock = some q → B q) (Q : Nat → Nat → α → Prop)
  (hQ : ∀ (b o : Nat) (e : E), (∀ j u, (cells e)[j]? = some u → wr.cell? ⟨b, o + j, none⟩ = some u) → In P wr e → Q b o (val e)) :
  ∃ a c, v = .slice a L.length c ∧ RowL size by' B Q a c (L.map val) := by
 rcases own.2 with ⟨rfl, h0⟩ | ⟨g, c, cur, rfl, hb, hg, hc, hcm, _⟩
 ·have hn : L = [] := List.length_eq_zero_iff.1 h0
  subst hn
  exact ⟨none, 0, rfl, fun _ => ⟨rfl, rfl⟩, Nat.le_refl _, Nat.zero_le _, by simp, .inl rfl⟩
 ·refine ⟨_, c, rfl, (fun h => by cases h), by simpa using hc, hcm, by simpa using hk, .inr ⟨g, 0, rfl, hB g rfl, fun i x hx => ?_⟩⟩
  rw [List.getElem?_map] at hx
  obtain ⟨e, he, rfl⟩ := Option.map_eq_some_iff.1 hx
  have hi : i < L.length := (List.getElem?_eq_some_iff.1 he).1
  have hee : L[i] = e := (List.getElem?_eq_some_iff.1 he).2
  refine hQ _ _ _ (fun j u hu => ?_) (ent i e he)
  have hj : j < size := by rw [← hs e]; exact (List.getElem?_eq_some_iff.1 hu).1
  rw [Nat.zero_add, World.ownsRow.cellAt own (i * size + j) (by
   have : (i + 1) * size ≤ L.length * size := Nat.mul_le_mul_right _ hi
   rw [Nat.succ_mul] at this
   omega), flat_at hs L i j hi hj, hee]
  exact hu
theorem ent_app {E : Type} {L : List E} {e : E} {P : E → Prop} (h1 : ∀ (i : Nat) (x : E), L[i]? = some x → P x) (h2 : P e) : ∀ (i : Nat) (x : E), (L ++ [e])[i]? = some x → P x := fun i x hx => by
 by_cases hi : i < L.length
 ·rw [List.getElem?_append_left hi] at hx
  exact h1 i x hx
 ·have hik : i = L.length := by
   have := (List.getElem?_eq_some_iff.1 hx).1
   simp at this
   omega
  subst hik
  rw [List.getElem?_append_right (Nat.le_refl _)] at hx
  simp at hx
  subst hx
  exact h2
theorem Pg.more_w (p : Pg.Pr) : (Pg.more p).w ≤ p.w + 10 := by
 have e1 : Pg.wTs [Pg.u32] = 0 := by simp [Pg.wTs, Pg.u32]
 have e2 : Pg.wFs [Pg.ret] = 1 := by decide +kernel
 simp only [Pg.more, Pg.Pr.w, Pg.wTs_app, Pg.wFs_app, e1, e2, List.length_append, List.length_singleton]
 omega
theorem CmO.chF {lo mm : Nat} {w4 w6 : World} {a5 a6 : Option Addr} {n k5 m k6 : Nat} {L2 : List FE} {T6 c6 : Nat} (hA : CmA mm w4 w6 a5 n k5 a6 m k6 L2 T6 c6) : Ch w4 w6 (Value.slice a6 m k6).ownBlock.toList := (Ch.of (ga (World.grownBy_alloc _ _ _) _)).trans (grown_cho hA.gr)
theorem CmA.rows {lo mm : Nat} {w4 w6 : World} {p : Pg.Pr} {a5 a6 : Option Addr} {n k5 m k6 : Nat} {L1 : List TE} {L2 : List FE} {T6 c6 : Nat} (h : CmO lo mm w4 p a5 a6 n k5 m k6 L1 L2) (hA : CmA mm w4 w6 a5 n k5 a6 m k6 L2 T6 c6) (hm : m < 1000) :
  FnL (fun q => mm ≤ q ∧ q < w6.heap.size ∧ q ≠ w4.heap.size) w6 (some ⟨T6, 0, none⟩) c6 (p.funcs ++ [Pg.ret]) ∧ (m + 1 = (p.funcs ++ [Pg.ret]).length) := by
 have hc := CmO.chF (lo := lo) hA
 have hs0 : (cmW w4 a5 a6 n k5 m k6).heap.size = w4.heap.size + 1 + 1 := by simp [cmW]
 have hs1 := hA.gr.size
 have hs2 := h.f.up
 have hmm := h.mm4
 have e : ((L2 ++ [(⟨Pg.ret, none, 0, none, 0, some ⟨w4.heap.size + 1, 0, none⟩, 1⟩ : FE)]).map FE.x) = p.funcs ++ [Pg.ret] := by rw [List.map_append, h.e2]; rfl
 have own : w6.ownsRow mm 53 4 (.slice (some ⟨T6, 0, none⟩) (m + 1) c6) (L2 ++ [(⟨Pg.ret, none, 0, none, 0, some ⟨w4.heap.size + 1, 0, none⟩, 1⟩ : FE)]).length ((L2 ++ [(⟨Pg.ret, none, 0, none, 0, some ⟨w4.heap.size + 1, 0, none⟩, 1⟩ : FE)]).flatMap cellsFE) := by
  rw [List.length_append, List.flatMap_append]
  simpa using hA.own
 have hb : ∀ q, (Value.slice (some ⟨T6, 0, none⟩) (m + 1) c6).ownBlock = some q → mm ≤ q ∧ q < w6.heap.size ∧ q ≠ w4.heap.size := fun q hq => by
  have h1 := World.ownsRow.lt hA.own q hq
  refine ⟨h1.1, h1.2, fun e => ?_⟩
  rcases hA.bl q hq with h5 | h5
  ·have := hs2 q h5; omega
  ·omega
 have kb : Bk w6 (w4.heap.size + 1) 51 [.int .i64 7, .int .i64 0, .slice none 0 0, .slice none 0 0, .slice none 0 0, .slice none 0 0] := by
  have k0 : Bk (cmW w4 a5 a6 n k5 m k6) (w4.heap.size + 1) 51 [.int .i64 7, .int .i64 0, .slice none 0 0, .slice none 0 0, .slice none 0 0, .slice none 0 0] := Bk.new2 (by simp)
  refine k0.ch (grown_cho hA.gr) fun hm => ?_
  have h2 := hs2 (w4.heap.size + 1) (by simpa using hm)
  omega
 have kl := kb.lt
 obtain ⟨a, c, hv, hrow⟩ := own_row (cells := cellsFE) (In := InFE) (by' := 80) (fun _ => rfl) own (fun q => mm ≤ q ∧ q < w6.heap.size ∧ q ≠ w4.heap.size) (ent_app (fun i x hx => inFE_ch (h.f.ent i x hx) hc (fun q hq hm => hq.2.2 (by simpa using hm)) (fun q hq => ⟨hq.1, by have := hq.2.1; omega, by have := hq.2.1; omega⟩))
   (show InFE _ w6 _ from ⟨rowL_nil9, rowL_nil9, rowL_one ⟨by omega, kl, by omega⟩ (StC.at (a1 := none) (a2 := none) (a3 := none) (a4 := none) (k1 := 0) (k2 := 0) (k3 := 0) (k4 := 0) ⟨kb.cell (i := 0) rfl, kb.cell (i := 1) rfl, kb.cell (i := 2) rfl, kb.cell (i := 3) rfl, kb.cell (i := 4) rfl, kb.cell (i := 5) rfl, ⟨by decide, by decide⟩, rowL_nil9, rowL_nil9, rowL_nil9, rowL_nil9⟩) (by decide)⟩))
  (by rw [List.length_append, h.l2, List.length_singleton]; unfold reachBytes; omega) FE.x (fun q => mm ≤ q ∧ q < w6.heap.size ∧ q ≠ w4.heap.size) hb (FnAt (fun q => mm ≤ q ∧ q < w6.heap.size ∧ q ≠ w4.heap.size) w6)
  (fun b o e hcc hin => ⟨e.a1, e.a2, e.a3, e.k1, e.k2, e.k3, hcc 0 _ rfl, hcc 1 _ rfl, hcc 2 _ rfl, hcc 3 _ rfl, hin.1, hin.2.1, hin.2.2⟩)
 rw [e] at hrow
 injection hv with h1 h2 h3
 subst h1 h3
 exact ⟨hrow, by rw [← e, List.length_map, List.length_append, h.l2, List.length_singleton]⟩
theorem CmA.own2 {lo mm : Nat} {w4 w6 : World} {p : Pg.Pr} {a5 a6 : Option Addr} {n k5 m k6 : Nat} {L1 : List TE} {L2 : List FE} {T6 c6 : Nat} (h : CmO lo mm w4 p a5 a6 n k5 m k6 L1 L2) (hA : CmA mm w4 w6 a5 n k5 a6 m k6 L2 T6 c6) (u : Value) :
  OTp lo mm (w6.setCell ⟨w4.heap.size, 1, none⟩ u) (.slice a5 n k5) L1 := by
 have hc := CmO.chF (lo := lo) hA
 have hs2 := h.f.own
 have hmm := h.mm4
 refine OwnG.ch (l := w4.heap.size :: (Value.slice a6 m k6).ownBlock.toList) @inTE_ch h.t ((hc.mono fun k _ hk => List.mem_cons_of_mem _ hk).trans (Ch.one (grown_set _ _ _ _) (by simp))) fun q h1 h2 hm => ?_
 rcases List.mem_cons.1 hm with h5 | h5
 ·omega
 ·have h6 := (World.ownsRow.lt hs2 q (by simpa using h5)).1
  omega
structure CmB (w3 w4 w7 : World) (p : Pg.Pr) (n m T6 c6 T7 c7 : Nat) : Prop where
 pr : PrC (fun q => q < (w7.setCell ⟨w4.heap.size, 0, none⟩ (.slice (some ⟨T7, 0, none⟩) (n + 1) c7)).heap.size) (w7.setCell ⟨w4.heap.size, 0, none⟩ (.slice (some ⟨T7, 0, none⟩) (n + 1) c7)) (Pg.more p) (some ⟨T7, 0, none⟩) (some ⟨T6, 0, none⟩) c7 c6
 b7 : Bk w7 w4.heap.size 27 [.slice none 0 0, .slice (some ⟨T6, 0, none⟩) (m + 1) c6] ∨ ∃ v, Bk w7 w4.heap.size 27 [v, .slice (some ⟨T6, 0, none⟩) (m + 1) c6]
 gr : w3.grownBy (w7.setCell ⟨w4.heap.size, 0, none⟩ (.slice (some ⟨T7, 0, none⟩) (n + 1) c7)) none
 ln : n + 1 = (Pg.more p).types.length ∧ m + 1 = (Pg.more p).funcs.length
theorem CmB.of {lo mm : Nat} {w3 w4 w6 w7 : World} {p : Pg.Pr} {a5 a6 : Option Addr} {n k5 m k6 : Nat} {L1 : List TE} {L2 : List FE} {T6 c6 T7 c7 : Nat} (h : CmO lo mm w4 p a5 a6 n k5 m k6 L1 L2) (hA : CmA mm w4 w6 a5 n k5 a6 m k6 L2 T6 c6) (hlo : lo = w3.heap.size) (g34 : w3.grownBy w4 none) (hm : m < 1000) (hn : n < 1000)
  (o7 : w7.ownsRow lo 61 4 (.slice (some ⟨T7, 0, none⟩) (n + 1) c7) (L1.length + 1) (L1.flatMap cellsTE ++ cellsTE ⟨Pg.u32, none, 0⟩)) (g7 : (w6.setCell ⟨w4.heap.size, 1, none⟩ (.slice (some ⟨T6, 0, none⟩) (m + 1) c6)).grownBy w7 (Value.slice a5 n k5).ownBlock) (b7 : ∀ q, (Value.slice (some ⟨T7, 0, none⟩) (n + 1) c7).ownBlock = some q → (Value.slice a5 n k5).ownBlock = some q ∨ (w6.setCell ⟨w4.heap.size, 1, none⟩ (.slice (some ⟨T6, 0, none⟩) (m + 1) c6)).heap.size ≤ q) : CmB w3 w4 w7 p n m T6 c6 T7 c7 := by
 obtain ⟨fr, fl⟩ := CmA.rows h hA hm
 have ot := CmA.own2 h hA (.slice (some ⟨T6, 0, none⟩) (m + 1) c6)
 have hc := CmO.chF (lo := lo) hA
 have c7' := grown_cho g7
 have hmm := h.mm4
 have hlm := h.lo
 have s46 := hc.size
 have s67 := g7.size
 have s0 : (cmW w4 a5 a6 n k5 m k6).heap.size = w4.heap.size + 1 + 1 := by simp [cmW]
 have s1 := hA.gr.size
 simp only [World.size_setCell] at s67 b7
 have hup : ∀ q, (Value.slice a5 n k5).ownBlock = some q → lo ≤ q ∧ q < mm := fun q hq => ⟨(World.ownsRow.lt h.t.own q hq).1, h.t.up q hq⟩
 have hup6 : ∀ q, (Value.slice a6 m k6).ownBlock = some q → mm ≤ q ∧ q < w4.heap.size := fun q hq => ⟨(World.ownsRow.lt h.f.own q hq).1, h.f.up q hq⟩
 have cs : Ch w7 (w7.setCell ⟨w4.heap.size, 0, none⟩ (.slice (some ⟨T7, 0, none⟩) (n + 1) c7)) [w4.heap.size] := Ch.one (grown_set _ _ _ _) (by simp)
 have e : ((L1 ++ [(⟨Pg.u32, none, 0⟩ : TE)]).map TE.x) = p.types ++ [Pg.u32] := by rw [List.map_append, h.e1]; rfl
 have own : w7.ownsRow lo 61 4 (.slice (some ⟨T7, 0, none⟩) (n + 1) c7) (L1 ++ [(⟨Pg.u32, none, 0⟩ : TE)]).length ((L1 ++ [(⟨Pg.u32, none, 0⟩ : TE)]).flatMap cellsTE) := by
  rw [List.length_append, List.flatMap_append]
  simpa using o7
 have hb : ∀ q, (Value.slice (some ⟨T7, 0, none⟩) (n + 1) c7).ownBlock = some q → q < w7.heap.size ∧ q ≠ w4.heap.size := fun q hq => by
  have h1 := World.ownsRow.lt o7 q hq
  refine ⟨h1.2, fun e => ?_⟩
  rcases b7 q hq with h5 | h5
  ·have := (hup q h5).2; omega
  ·omega
 obtain ⟨a, c, hv, hrow⟩ := own_row (cells := cellsTE) (In := InTE) (by' := 48) (fun _ => rfl) own (fun q => q < w7.heap.size ∧ q ≠ w4.heap.size) (ent_app (fun i x hx => inTE_ch (ot.ent i x hx) c7' (fun q hq hm => hq.2.2 (by simpa using hm)) (fun q hq => ⟨by have := hq.2.1; omega, by have := hq.2.1; omega⟩)) (show InTE _ w7 _ from rowL_nil9))
  (by rw [List.length_append, h.l1, List.length_singleton]; unfold reachBytes; omega) TE.x (fun q => q < w7.heap.size ∧ q ≠ w4.heap.size) hb (TpAt (fun q => q < w7.heap.size ∧ q ≠ w4.heap.size) w7)
  (fun b o e hcc hin => ⟨e.a1, e.k1, hcc 0 _ rfl, hcc 1 _ rfl, hcc 2 _ rfl, hcc 3 _ rfl, hin⟩)
 rw [e] at hrow
 injection hv with h1 h2 h3
 subst h1 h3
 have pb6 : Bk (w6.setCell ⟨w4.heap.size, 1, none⟩ (.slice (some ⟨T6, 0, none⟩) (m + 1) c6)) w4.heap.size 27 [.slice a5 n k5, .slice (some ⟨T6, 0, none⟩) (m + 1) c6] := hA.pb.set 1 _
 refine ⟨⟨?_, ?_⟩, .inr ⟨.slice a5 n k5, pb6.ch c7' fun hm => ?_⟩, ?_, ?_, ?_⟩
 ·exact TpL.ch hrow cs (fun q hq hm => hq.2 (by simpa using hm)) (fun q hq => by simpa using hq.1)
 ·have f1 : FnL (fun q => mm ≤ q ∧ q < w6.heap.size ∧ q ≠ w4.heap.size) (w6.setCell ⟨w4.heap.size, 1, none⟩ (.slice (some ⟨T6, 0, none⟩) (m + 1) c6)) (some ⟨T6, 0, none⟩) c6 (p.funcs ++ [Pg.ret]) := FnL.ch (l := [w4.heap.size]) fr (Ch.one (grown_set _ _ _ _) (by simp)) (fun q hq hm => hq.2.2 (by simpa using hm)) (fun _ hq => hq)
  have f2 : FnL (fun q => mm ≤ q ∧ q < w6.heap.size ∧ q ≠ w4.heap.size) w7 (some ⟨T6, 0, none⟩) c6 (p.funcs ++ [Pg.ret]) := FnL.ch f1 c7' (fun q hq hm => by have := (hup q (by simpa using hm)).2; omega) (fun _ hq => hq)
  exact FnL.ch f2 cs (fun q hq hm => hq.2.2 (by simpa using hm)) (fun q hq => by have := hq.2.1; simp; omega)
 ·have := (hup _ (by simpa using hm)).2
  omega
 ·have q1 : Ch w3 w4 (w4.heap.size :: ((Value.slice a6 m k6).ownBlock.toList ++ (Value.slice a5 n k5).ownBlock.toList)) := Ch.of g34
  refine Ch.nil (q1.trans ((hc.mono fun k _ hk => List.mem_cons_of_mem _ (List.mem_append_left _ hk)).trans ((Ch.one (grown_set w6 w4.heap.size 1 (.slice (some ⟨T6, 0, none⟩) (m + 1) c6)) (by simp)).trans ((c7'.mono fun k _ hk => List.mem_cons_of_mem _ (List.mem_append_right _ hk)).trans (Ch.one (grown_set _ _ _ _) (by simp)))))) fun k hk => ?_
  have := g34.size
  rcases List.mem_cons.1 hk with h5 | h5
  ·omega
  ·rcases List.mem_append.1 h5 with h6 | h6
   ·have := (hup6 k (by simpa using h6)).1; omega
   ·have := (hup k (by simpa using h6)).1; omega
 ·show n + 1 = (p.types ++ [Pg.u32]).length
  rw [← e, List.length_map, List.length_append, h.l1, List.length_singleton]
 ·exact fl
theorem CmB.cells {w3 w4 w7 : World} {p : Pg.Pr} {n m T6 c6 T7 c7 : Nat} (h : CmB w3 w4 w7 p n m T6 c6 T7 c7) : (∃ v, w7.cell? ⟨w4.heap.size, 0, none⟩ = some v) ∧ w7.cell? ⟨w4.heap.size, 1, none⟩ = some (.slice (some ⟨T6, 0, none⟩) (m + 1) c6) ∧ w7.frozen? ⟨w4.heap.size, 0, none⟩ = false := by
 rcases h.b7 with h1 | ⟨v, h1⟩
 ·exact ⟨⟨_, h1.cell (i := 0) rfl⟩, h1.cell (i := 1) rfl, h1.frozen 0⟩
 ·exact ⟨⟨_, h1.cell (i := 0) rfl⟩, h1.cell (i := 1) rfl, h1.frozen 0⟩
theorem CmB.bk {w3 w4 w7 : World} {p : Pg.Pr} {n m T6 c6 T7 c7 : Nat} (h : CmB w3 w4 w7 p n m T6 c6 T7 c7) : Bk (w7.setCell ⟨w4.heap.size, 0, none⟩ (.slice (some ⟨T7, 0, none⟩) (n + 1) c7)) w4.heap.size 27 [.slice (some ⟨T7, 0, none⟩) (n + 1) c7, .slice (some ⟨T6, 0, none⟩) (m + 1) c6] := by
 rcases h.b7 with h1 | ⟨v, h1⟩
 ·exact h1.set 0 _
 ·exact h1.set 0 _
end Go.Proofs.YtcfpnojbhojagaaGreat
