/- Contracts and plain facts that the walks share. -/
import Derived.Test.YtkiockffejlnhaaGreatDoorG19
import Derived.Test.YtkiockffejlnhaaGreatDoorG14
import Derived.Test.YtkiockffejlnhaaGreatDoorG11
import Derived.Test.YtkiockffejlnhaaGreatDoorLkLink
import Derived.Test.YtkiockffejlnhaaGreatDoorG10
import Derived.Deep.AppendLies
namespace Go.Proofs.YtkiockffejlnhaaGreatDoor
set_option maxRecDepth 100000
set_option maxHeartbeats 32000000
open Go.RowKit
set_option linter.unusedVariables false
theorem copyPiece_any {N : Nat} {w : World} {P : Lk.PcV} {A : PcA} (hN : N ≤ w.heap.size) (h : InsIn N w A.ia P.n A.ic P.I) (hz : A.ia = none → P.n = 0 ∧ A.ic = 0) (hf : P.n * 72 ≤ reachBytes)
  (hm : NumIn N w A.ma P.m A.mc P.M) (hmz : A.ma = none → P.m = 0 ∧ A.mc = 0) (hmf : P.m * 8 ≤ reachBytes) :
  Calls Tryz.prog 19 #[.agg #[.slice A.ia P.n A.ic, .slice A.ma P.m A.mc, .int .i64 A.out]] w fun e w' => ∃ a1 c1 a2 c2, e = .returned (.agg #[.slice a1 P.n c1, .slice a2 P.m c2, .int .i64 A.out]) ∧
   (InsIn w'.heap.size w' a1 P.n c1 P.I ∧ ∀ b o, a1 = some ⟨b, o, none⟩ → w.heap.size ≤ b ∧ InsB w' b) ∧ (NumIn w'.heap.size w' a2 P.m c2 P.M ∧ ∀ b o, a2 = some ⟨b, o, none⟩ → w.heap.size ≤ b ∧ IntB w' b) ∧ w.grownBy w' none := by
 obtain ⟨W3, hW3⟩ : ∃ W3, W3 = ((w.alloc (.cells #[.slice A.ia P.n A.ic, .slice A.ma P.m A.mc, .int .i64 A.out] 48)).alloc (.cells #[.slice none 0 0, .slice none 0 0, .int .i64 0] 48)).alloc (.cells #[.slice A.ia P.n A.ic, .slice A.ma P.m A.mc, .int .i64 A.out] 48) := ⟨_, rfl⟩
 have hg3 : w.grownBy W3 none := by rw [hW3]; exact ga (ga gal _) _
 have hs3 : W3.heap.size = w.heap.size + 3 := by rw [hW3]; simp
 have HC : Hid (Calls Tryz.prog 36 #[.slice A.ia P.n A.ic] W3 fun e w' => ∃ a' c', e = .returned (.slice a' P.n c') ∧ InsIn w'.heap.size w' a' P.n c' P.I ∧ (a' = none → P.n = 0 ∧ c' = 0) ∧ (∀ b o, a' = some ⟨b, o, none⟩ → W3.heap.size ≤ b ∧ InsB w' b) ∧ W3.grownBy w' none) := copyInsts_any (h.grow hg3) hz hf
 have HD : Hid (∀ W, Ch W3 W [w.heap.size + 2] → Calls Tryz.prog 37 #[.slice A.ma P.m A.mc] W fun e w' => ∃ a' c', e = .returned (.slice a' P.m c') ∧ NumIn w'.heap.size w' a' P.m c' P.M ∧ (a' = none → P.m = 0 ∧ c' = 0) ∧ (∀ b o, a' = some ⟨b, o, none⟩ → W.heap.size ≤ b ∧ IntB w' b) ∧ W.grownBy w' none) := fun W hc => copyNums_any ((hm.grow hg3).ch hc (by simp; omega)) hmz hmf
 have HG3 : Hid (w.grownBy W3 none) := hg3
 have HW3 : Hid (W3 = ((w.alloc (.cells #[.slice A.ia P.n A.ic, .slice A.ma P.m A.mc, .int .i64 A.out] 48)).alloc (.cells #[.slice none 0 0, .slice none 0 0, .int .i64 0] 48)).alloc (.cells #[.slice A.ia P.n A.ic, .slice A.ma P.m A.mc, .int .i64 A.out] 48)) := hW3
 have K : Hid ((∀ j v, (#[.slice A.ia P.n A.ic, .slice A.ma P.m A.mc, .int .i64 A.out] : Array Value)[j]? = some v → W3.cell? ⟨w.heap.size + 2, j, none⟩ = some v) ∧ (∀ q, W3.frozen? ⟨w.heap.size + 2, q, none⟩ = false) ∧ (∀ j v, (#[.slice none 0 0, .slice none 0 0, .int .i64 0] : Array Value)[j]? = some v → W3.cell? ⟨w.heap.size + 1, j, none⟩ = some v) ∧ (∀ q, W3.frozen? ⟨w.heap.size + 1, q, none⟩ = false) ∧ (∀ j v, (#[.slice A.ia P.n A.ic, .slice A.ma P.m A.mc, .int .i64 A.out] : Array Value)[j]? = some v → W3.cell? ⟨w.heap.size, j, none⟩ = some v)) := by
  rw [hW3]
  refine ⟨fun j v hv => ?_, fun q => ?_, fun j v hv => ?_, fun q => ?_, fun j v hv => ?_⟩
  ·rw [← hv]; exact cells_new _ _ (by simp) _
  ·exact fzs_new _ _ (by simp) _
  ·exact (Ch.of (l := []) gal).cell ((cells_new _ _ (by simp) _).trans hv) (by simp)
  ·exact frozenK (l := []) (Ch.of gal) (by simp) (by simp) (fzs_new _ _ (by simp) _)
  ·exact (Ch.of (l := []) (ga gal _)).cell ((cells_new _ _ rfl _).trans hv) (by simp)
 clear h hz hf hm hmz hmf hg3 hW3
 go_enter Tryz.func19, Tryz.ntmps19
 go_wp2_with (first
  | (go_at_call 36; rw [← HW3.out]; refine HC.out.mono ?_; rintro e w4 ⟨a', c', rfl, hN4, hz4, hb4, hg4⟩; have HN4 : Hid (InsIn w4.heap.size w4 a' P.n c' P.I ∧ (∀ b o, a' = some ⟨b, o, none⟩ → W3.heap.size ≤ b ∧ InsB w4 b)) := ⟨hN4, hb4⟩; have HG4 : Hid (W3.grownBy w4 none) := hg4; have k0 := (Ch.of (l := []) hg4).cell (K.out.1 0 _ rfl) (by simp); have p1 := (Ch.of (l := []) hg4).cell (K.out.2.2.2.2 1 _ rfl) (by simp); have z0 := frozenK (l := []) (Ch.of hg4) (by omega) (by simp) (K.out.2.1 0); have HC4 : Hid (Ch W3 (w4.setCell ⟨w.heap.size + 2, 0, none⟩ (.slice a' P.n c')) [w.heap.size + 2]) := (Ch.of hg4).trans (Ch.one (grown_set _ _ _ _) (by simp)); clear hN4 hz4 hb4 hg4)
  | (go_at_call 37; refine (HD.out _ HC4.out).mono ?_; rintro e w6 ⟨a2, c2, rfl, hN6, hz6, hb6, hg6⟩; have HN6 : Hid (NumIn w6.heap.size w6 a2 P.m c2 P.M ∧ (∀ b o, a2 = some ⟨b, o, none⟩ → (w4.setCell ⟨w.heap.size + 2, 0, none⟩ (.slice a' P.n c')).heap.size ≤ b ∧ IntB w6 b)) := ⟨hN6, hb6⟩; have HG6 : Hid ((w4.setCell ⟨w.heap.size + 2, 0, none⟩ (.slice a' P.n c')).grownBy w6 none) := hg6; have HC6 : Hid (Ch W3 w6 [w.heap.size + 2]) := HC4.out.trans (Ch.of hg6); have c6 := HC6.out; have q0 : w6.cell? ⟨w.heap.size + 2, 0, none⟩ = some (.slice a' P.n c') := (Ch.of (l := []) hg6).cell (World.cell?_setCell_same _ _ _ k0) (by simp); have q1 : w6.cell? ⟨w.heap.size + 2, 1, none⟩ = some (.slice A.ma P.m A.mc) := (Ch.of (l := []) hg6).cell ((World.cell?_setCell_other _ _ _ _ (by simp)).trans ((Ch.of (l := []) HG4.out).cell (K.out.1 1 _ rfl) (by simp))) (by simp); have q2 : w6.cell? ⟨w.heap.size + 2, 2, none⟩ = some (.int .i64 A.out) := (Ch.of (l := []) hg6).cell ((World.cell?_setCell_other _ _ _ _ (by simp)).trans ((Ch.of (l := []) HG4.out).cell (K.out.1 2 _ rfl) (by simp))) (by simp); have z1 : w6.frozen? ⟨w.heap.size + 2, 1, none⟩ = false := frozenK (l := []) (Ch.of hg6) (by have := HG4.out.size; simp; omega) (by simp) (by rw [World.frozen?_setCell]; exact frozenK (l := []) (Ch.of HG4.out) (by omega) (by simp) (K.out.2.1 1)); have r0 := c6.cell (K.out.2.2.1 0 _ rfl) (by simp); have r1 := c6.cell (K.out.2.2.1 1 _ rfl) (by simp); have r2 := c6.cell (K.out.2.2.1 2 _ rfl) (by simp); have y0 := frozenK c6 (by omega) (by simp) (K.out.2.2.2.1 0); have y1 := frozenK c6 (by omega) (by simp) (K.out.2.2.2.1 1); have y2 := frozenK c6 (by omega) (by simp) (K.out.2.2.2.1 2); clear hN6 hz6 hb6 hg6 c6))
 refine bodyPost_ret (by simp [results, Tryz.results19, go_sem, r0, r1, r2]; try rfl) rfl ?_
 have hs4 := HG4.out.size
 have hs6 := HC6.out.size
 generalize hw9 : (((w6.setCell _ _).setCell _ _).setCell _ _).setCell _ _ = w9
 have c9 : Ch w6 w9 [w.heap.size + 1, w.heap.size + 2] := by
  rw [← hw9]
  exact (((Ch.one (grown_set _ _ _ _) (by simp)).trans (Ch.one (grown_set _ _ _ _) (by simp))).trans (Ch.one (grown_set _ _ _ _) (by simp))).trans (Ch.one (grown_set _ _ _ _) (by simp))
 have c49 : Ch w4 w9 [w.heap.size + 1, w.heap.size + 2] := ((Ch.one (grown_set w4 (w.heap.size + 2) 0 (.slice a' P.n c')) (by simp)).trans (Ch.of HG6.out)).trans c9
 have hsz : (w4.setCell ⟨w.heap.size + 2, 0, none⟩ (.slice a' P.n c')).heap.size = w4.heap.size := by simp
 have i1 : ∀ b o, a' = some ⟨b, o, none⟩ → b ∉ [w.heap.size + 1, w.heap.size + 2] := fun b o e => by have := (HN4.out.2 b o e).1; simp; omega
 have i2 : ∀ b o, a2 = some ⟨b, o, none⟩ → b ∉ [w.heap.size + 1, w.heap.size + 2] := fun b o e => by have := (HN6.out.2 b o e).1; simp at this ⊢; omega
 refine ⟨a', c', a2, c2, rfl, ⟨(HN4.out.1.ch2 c49 i1).up c49.size, fun b o e => ⟨by have := (HN4.out.2 b o e).1; omega, (HN4.out.2 b o e).2.ch c49 (i1 b o e)⟩⟩, ⟨(HN6.out.1.ch2 c9 i2).up c9.size, fun b o e => ⟨by have := (HN6.out.2 b o e).1; simp at this; omega, (HN6.out.2 b o e).2.ch c9 (i2 b o e)⟩⟩, ?_⟩
 exact ((Ch.of (gtr HG3.out HG4.out)).trans c49).nil (by simp)
structure Pe where
 P : Lk.PcV
 A : PcA
def cellsP (e : Pe) : List Value := [.slice e.A.ia e.P.n e.A.ic, .slice e.A.ma e.P.m e.A.mc, .int .i64 e.A.out]
def OwnP (w : World) (base : Nat) (v : Value) (l : List Pe) : Prop := w.ownsRow base 48 3 v l.length (l.flatMap cellsP)
theorem info_pc : (Tryz.prog.info? 48).map (fun i => (i.zero, i.size, i.bytes)) = some (some (.agg #[.slice none 0 0, .slice none 0 0, .int .i64 0]), 3, 56) := by kernel_rfl
theorem flatP_at : ∀ (l : List Pe) (i k : Nat) (hi : i < l.length), k < 3 → (l.flatMap cellsP)[i * 3 + k]? = (cellsP l[i])[k]?
 | [], i, k, hi, _ => by simp at hi
 | v :: l, 0, k, _, hk => by
  rw [List.flatMap_cons, List.getElem?_append_left (by simp [cellsP]; omega)]
  simp
 | v :: l, i + 1, k, hi, hk => by
  have h4 : (cellsP v).length = 3 := rfl
  rw [List.flatMap_cons, List.getElem?_append_right (by rw [h4]; omega), h4, show (i + 1) * 3 + k - 3 = i * 3 + k by omega]
  exact flatP_at l i k (by simpa using hi) hk
theorem OwnP.grow {w w' : World} {base : Nat} {v : Value} {l : List Pe} (h : OwnP w base v l) (hg : w.grownBy w' none) : OwnP w' base v l := World.ownsRow.kept h hg (Classical.em _)
theorem OwnP.base {w : World} {base : Nat} {v : Value} {l : List Pe} (h : OwnP w base v l) : ∀ k, v.ownBlock = some k → base ≤ k := fun k hk => (World.ownsRow.lt h k hk).1
theorem wp_appPe {ops : Array Oper} {rest : List Oper} {o : Oper} {a : Act} {Q : Exit → Act → World → Prop} {W : World} (hgd : o.guard = none) (s x : Operand)
  (ho : o.op = .call { callee := .builtin .append, args := #[s, x], argTypes := #[23, 23] }) (base : Nat) (v : Value) (l : List Pe) (u : Pe) (hs : a.eval s = v) (hown : OwnP W base v l)
  (hx : a.eval x = .slice (some ⟨W.heap.size, 0, none⟩) 1 1) (hl : l.length ≤ 100000) (hb : base ≤ W.heap.size)
  (h : ∀ v' w', OwnP w' base v' (l ++ [u]) → W.grownBy w' v.ownBlock → wpList Tryz.prog ops Q rest (a.put o.dst v') w') : wpList Tryz.prog ops Q (o :: rest) a (W.alloc (Obj.cells #[.slice u.A.ia u.P.n u.A.ic, .slice u.A.ma u.P.m u.A.mc, .int .i64 u.A.out] 48)) := by
 obtain ⟨i, hi, hz0, hz1, hz2⟩ := info_parts info_pc
 refine wpList_append_own _ hgd s x 23 ho base 48 i _ 3 56 Tryz.underlying23 hi hz0 hz1 hz2 rfl (by decide) v l.length (l.flatMap cellsP) hs (World.ownsRow.alloc hown _) ⟨W.heap.size, 0, none⟩ 1 1 (cellsP u) hx rfl
  (by intro j y hj; rw [addr_add, Nat.zero_add, cells_new _ _ rfl]; rw [← hj]; simp [cellsP]) (by intro y hy; simp [cellsP] at hy; rcases hy with rfl | rfl | rfl <;> rfl) (by unfold maxLen; omega) (by omega) (by simp; omega) ?_
 intro v' w2 ho2 hg2 _
 refine h v' w2 ?_ (gtr (grown_noneR _ gal) hg2)
 unfold OwnP
 rw [List.length_append, List.flatMap_append]
 simpa using ho2
theorem OwnP.apart {w : World} {base b : Nat} {v : Value} {l : List Pe} (h : OwnP w base v l) (hb : IntB w b ∨ InsB w b) : v.ownBlock ≠ some b := by
 intro e
 rcases h.2 with ⟨rfl, _⟩ | ⟨g, c, cur, rfl, _, hg, _⟩
 ·cases e
 ·simp [Value.ownBlock] at e
  subst e
  rcases hb with ⟨cur', h'⟩ | ⟨cur', h'⟩
  ·rw [hg] at h'; simp at h'
  ·rw [hg] at h'; simp at h'
structure CopP (w wr : World) (V : Nat → Lk.PcV) (A : Nat → PcA) (k : Nat) (v : Value) (l : List Pe) : Prop where
 own : OwnP wr w.heap.size v l
 len : l.length = k
 ent : ∀ i (hi : i < l.length), l[i].P = V i ∧ (InsIn wr.heap.size wr l[i].A.ia (V i).n l[i].A.ic (V i).I ∧ ∀ b o, l[i].A.ia = some ⟨b, o, none⟩ → InsB wr b) ∧ (NumIn wr.heap.size wr l[i].A.ma (V i).m l[i].A.mc (V i).M ∧ ∀ b o, l[i].A.ma = some ⟨b, o, none⟩ → IntB wr b)
 gr : w.grownBy wr none
 out : ∀ i (hi : i < l.length), l[i].A.out = (A i).out
theorem CopP.ps {w wr : World} {V : Nat → Lk.PcV} {A0 : Nat → PcA} {k : Nat} {v : Value} {l : List Pe} (h : CopP w wr V A0 k v l) : ∃ a c A, v = .slice a k c ∧ PcsIn wr.heap.size wr a k c V A ∧ ∀ i, i < k → (A i).out = (A0 i).out := by
 have hl := h.len
 subst hl
 rcases h.own.2 with ⟨rfl, h0⟩ | ⟨g, c, cur, rfl, hb, hg, hc, hcm, _⟩
 ·exact ⟨none, 0, fun _ => ⟨none, 0, none, 0, 0⟩, by rw [h0], ⟨by omega, Nat.zero_le _, .inl h0⟩, fun i hi => by omega⟩
 ·refine ⟨_, c, fun i => (l.getD i ⟨⟨0, fun _ => zeroI, 0, fun _ => 0⟩, ⟨none, 0, none, 0, 0⟩⟩).A, rfl, ⟨hc, hcm, .inr ⟨g, 0, rfl, (World.ownsRow.lt h.own g rfl).2, fun i hi => ?_⟩⟩, fun i hi => by simp only [List.getD_eq_getElem?_getD, List.getElem?_eq_getElem hi, Option.getD_some]; exact h.out i hi⟩
  have e : ∀ q, q < 3 → wr.cell? ⟨g, i * 3 + q, none⟩ = (cellsP l[i])[q]? := fun q hq => (World.ownsRow.cellAt h.own (i * 3 + q) (by omega)).trans (flatP_at l i q hi hq)
  obtain ⟨e1, ⟨e2, _⟩, e3, _⟩ := h.ent i hi
  have eg : l.getD i ⟨⟨0, fun _ => zeroI, 0, fun _ => 0⟩, ⟨none, 0, none, 0, 0⟩⟩ = l[i] := by simp [List.getD_eq_getElem?_getD, hi]
  rw [Nat.zero_add]
  simp only [eg]
  refine ⟨?_, ?_, ?_, e2, e3⟩
  ·rw [← e1]; exact e 0 (by decide)
  ·rw [← e1]; exact e 1 (by decide)
  ·exact e 2 (by decide)
theorem copyPieces_out {w : World} {N : Nat} {a : Option Addr} {K c : Nat} {V : Nat → Lk.PcV} {A : Nat → PcA} (h : PcsIn N w a K c V A) (hN : N ≤ w.heap.size) (hn : K ≤ 3000) (iz : ∀ k, k < K → (A k).ia = none → (V k).n = 0 ∧ (A k).ic = 0) (mz : ∀ k, k < K → (A k).ma = none → (V k).m = 0 ∧ (A k).mc = 0) (ib : ∀ k, k < K → (V k).n * 72 ≤ reachBytes) (mb : ∀ k, k < K → (V k).m * 8 ≤ reachBytes) :
  Calls Tryz.prog 6 #[.slice a K c] w fun e w' => ∃ a' c' A', e = .returned (.slice a' K c') ∧ (PcsIn w'.heap.size w' a' K c' V A' ∧ ∀ k, k < K → (A' k).out = (A k).out) ∧ w.grownBy w' none := by
 have hle := h.le
 have hmx := h.max
 unfold maxLen at hmx
 have hn' : (K : Int) ≤ 3000 := by omega
 have HT : Hid (∀ W, w.grownBy W none → PcsIn N W a K c V A) := fun W g => h.ch (l := []) (Ch.of g) (by simp)
 have HF : Hid (∀ k, k < K → ((A k).ia = none → (V k).n = 0 ∧ (A k).ic = 0) ∧ ((A k).ma = none → (V k).m = 0 ∧ (A k).mc = 0) ∧ (V k).n * 72 ≤ reachBytes ∧ (V k).m * 8 ≤ reachBytes) := fun k hk => ⟨iz k hk, mz k hk, ib k hk, mb k hk⟩
 clear h iz mz ib mb
 go_enter Tryz.func6, Tryz.ntmps6
 go_wp2_with fail
 go_loopw [3, 4] (fun v ix wr => ∃ (k : Nat) (l : List Pe), ix = .int .i64 k ∧ k ≤ K ∧ CopP w wr V A k v l) (fun _ ix _ => K - (intOf ix).toNat)
 case atStart => exact ⟨0, [], rfl, Nat.zero_le _, World.ownsRow_nil _ _ _ _, rfl, (fun i hi => by simp at hi), gr0, (fun i hi => by simp at hi)⟩
 case round =>
  obtain ⟨k, l, rfl, hk, hc⟩ := hrel
  have HC : Hid (CopP w wr V A k _ l) := hc
  by_cases hkn : k < K
  ·have hkn' : (k : Int) < K := by omega
   obtain ⟨b, off, rfl, hb, hty⟩ := (HT.out _ hc.gr).at hkn
   have hf := HF.out k hkn
   have hsz := hc.gr.size
   have hcp := copyPiece_any (Nat.le_trans hN hsz) hty.ins hf.1 hf.2.2.1 hty.mks hf.2.1 hf.2.2.2
   obtain ⟨P, hP⟩ : ∃ P, P = V k := ⟨_, rfl⟩
   obtain ⟨B, hB⟩ : ∃ B, B = A k := ⟨_, rfl⟩
   rw [← hP, ← hB] at hcp
   have HCp : Hid (Calls Tryz.prog 19 #[.agg #[.slice B.ia P.n B.ic, .slice B.ma P.m B.mc, .int .i64 B.out]] wr fun e w' => ∃ a1 c1 a2 c2, e = .returned (.agg #[.slice a1 P.n c1, .slice a2 P.m c2, .int .i64 B.out]) ∧
    (InsIn w'.heap.size w' a1 P.n c1 P.I ∧ ∀ b o, a1 = some ⟨b, o, none⟩ → wr.heap.size ≤ b ∧ InsB w' b) ∧ (NumIn w'.heap.size w' a2 P.m c2 P.M ∧ ∀ b o, a2 = some ⟨b, o, none⟩ → wr.heap.size ≤ b ∧ IntB w' b) ∧ wr.grownBy w' none) := hcp
   have c0 := hty.c0
   have c1 := hty.c1
   have c2 := hty.c2
   rw [← hP, ← hB] at c0 c1
   rw [← hB] at c2
   have hlk := hc.len
   have HX : Hid (P = V k) := hP
   have HY : Hid (B = A k) := hB
   clear hc hcp hty hf hP hB
   go_wp2_with (first
    | (go_at_call 19; refine HCp.out.mono ?_; rintro e w4 ⟨a1, k1, a2, k2, rfl, hN4, hM4, hg4⟩; have HN4 : Hid ((InsIn w4.heap.size w4 a1 P.n k1 P.I ∧ ∀ b o, a1 = some ⟨b, o, none⟩ → wr.heap.size ≤ b ∧ InsB w4 b) ∧ (NumIn w4.heap.size w4 a2 P.m k2 P.M ∧ ∀ b o, a2 = some ⟨b, o, none⟩ → wr.heap.size ≤ b ∧ IntB w4 b)) := ⟨hN4, hM4⟩; have HG4 : Hid (wr.grownBy w4 none) := hg4; have hsz4 := hg4.size; clear hN4 hM4 hg4)
    | (at_builtin; refine wp_appPe rfl _ _ rfl w.heap.size u3 l ⟨P, ⟨a1, k1, a2, k2, B.out⟩⟩ rfl (HC.out.own.grow HG4.out) rfl (by omega) (by omega) ?_; intro v6 w6 ho6 hg6))
   go_roundw
   case rel =>
    have o4 := HC.out.own.grow HG4.out
    have hch : Ch w4 w6 u3.ownBlock.toList := grown_ch hg6
    have hap : ∀ b, (IntB w4 b ∨ InsB w4 b) → b ∉ u3.ownBlock.toList := fun b hb hm => o4.apart hb (by simpa using hm)
    refine ⟨k + 1, l ++ [⟨P, ⟨a1, k1, a2, k2, B.out⟩⟩], by go_num, by omega, ho6, by simp [hlk], fun i hi => ?_, ?_, fun i hi => ?_⟩
    ·by_cases hil : i < l.length
     ·rw [List.getElem_append_left hil]
      obtain ⟨e1, ⟨e2, e3⟩, e4, e5⟩ := HC.out.ent i hil
      have e3' : ∀ b o, l[i].A.ia = some ⟨b, o, none⟩ → InsB w4 b := fun b o e => (e3 b o e).ch (l := []) (Ch.of HG4.out) (by simp)
      have e5' : ∀ b o, l[i].A.ma = some ⟨b, o, none⟩ → IntB w4 b := fun b o e => (e5 b o e).ch (l := []) (Ch.of HG4.out) (by simp)
      exact ⟨e1, ⟨((e2.grow HG4.out).ch2 hch (fun b o e => hap b (.inr (e3' b o e)))).up (by have := hch.size; omega), fun b o e => (e3' b o e).ch hch (hap b (.inr (e3' b o e)))⟩, ((e4.grow HG4.out).ch2 hch (fun b o e => hap b (.inl (e5' b o e)))).up (by have := hch.size; omega), fun b o e => (e5' b o e).ch hch (hap b (.inl (e5' b o e)))⟩
     ·have hik : i = l.length := by simp at hi; omega
      subst hik
      have hT : V l.length = P := by rw [hlk]; exact HX.out.symm
      rw [List.getElem_append_right (Nat.le_refl _)]
      simp only [Nat.sub_self, List.getElem_cons_zero]
      rw [hT]
      obtain ⟨⟨n1, n2⟩, n3, n4⟩ := HN4.out
      exact ⟨rfl, ⟨(n1.ch2 hch (fun b o e => hap b (.inr (n2 b o e).2))).up hch.size, fun b o e => (n2 b o e).2.ch hch (hap b (.inr (n2 b o e).2))⟩, (n3.ch2 hch (fun b o e => hap b (.inl (n4 b o e).2))).up hch.size, fun b o e => (n4 b o e).2.ch hch (hap b (.inl (n4 b o e).2))⟩
    ·have := (Ch.of (l := u3.ownBlock.toList) (gtr HC.out.gr HG4.out)).trans hch
     exact this.nil (fun q hq => HC.out.own.base q (by simpa using hq))
    ·by_cases hil : i < l.length
     ·rw [List.getElem_append_left hil]
      exact HC.out.out i hil
     ·have hik : i = l.length := by simp at hi; omega
      subst hik
      rw [List.getElem_append_right (Nat.le_refl _)]
      simp only [Nat.sub_self, List.getElem_cons_zero]
      rw [HY.out, hlk]
   case measure => simp [intOf]; omega
  ·obtain rfl : k = K := by omega
   obtain ⟨a1, c1, A1, rfl, hT1⟩ := hc.ps
   clear hc
   go_wp2
   go_ret
   exact ⟨a1, c1, A1, rfl, hT1, HC.out.gr⟩
end Go.Proofs.YtkiockffejlnhaaGreatDoor
namespace Go.Proofs.YtkiockffejlnhaaGreatDoor
open Go.RowKit
set_option linter.unusedVariables false
namespace Lk
theorem codeP_pre (t : Int) (V : Nat → PcV) (S : Nat → Nat → Int) (k : Nat) {i n : Nat} (h : i ≤ n) : ∃ s, codeP t V S k n = codeP t V S k i ++ s := by
  induction n with
  | zero => obtain rfl : i = 0 := by omega
            exact ⟨[], by simp⟩
  | succ n ih =>
    by_cases hi : i = n + 1
    · subst hi; exact ⟨[], by simp⟩
    · obtain ⟨s, hs⟩ := ih (by omega)
      exact ⟨s ++ Ru.encT t (fin t V S k n), by rw [codeP, hs, List.append_assoc]⟩
theorem codeA_pre (t : Int) (V : Nat → PcV) (S : Nat → Nat → Int) {i n : Nat} (h : i ≤ n) : ∃ s, codeA t V S n = codeA t V S i ++ s := by
  induction n with
  | zero => obtain rfl : i = 0 := by omega
            exact ⟨[], by simp⟩
  | succ n ih =>
    by_cases hi : i = n + 1
    · subst hi; exact ⟨[], by simp⟩
    · obtain ⟨s, hs⟩ := ih (by omega)
      exact ⟨s ++ codeP t V S n (V n).n, by rw [codeA, hs, List.append_assoc]⟩
theorem code_split {t : Int} {K : Nat} {V : Nat → PcV} {S : Nat → Nat → Int} {k i : Nat} (hk : k < K) (hi : i < (V k).n) : ∃ s, codeA t V S K = (codeA t V S k ++ codeP t V S k i) ++ (Ru.encT t (fin t V S k i) ++ s) := by
  obtain ⟨s1, h1⟩ := codeA_pre t V S (i := k + 1) (n := K) (by omega)
  obtain ⟨s2, h2⟩ := codeP_pre t V S k (i := i + 1) (n := (V k).n) (by omega)
  refine ⟨s2 ++ s1, ?_⟩
  rw [h1, codeA, h2, codeP]
  simp [List.append_assoc]
end Lk
theorem PcAt.up {N M : Nat} {w : World} {b o : Nat} {P : Lk.PcV} {A : PcA} (h : PcAt N w b o P A) (hM : N ≤ M) : PcAt M w b o P A := ⟨h.c0, h.c1, h.c2, h.ins.up hM, h.mks.up hM⟩
theorem PcsIn.grow {N : Nat} {w w' : World} {a : Option Addr} {K c : Nat} {V : Nat → Lk.PcV} {A : Nat → PcA} (h : PcsIn N w a K c V A) (hg : w.grownBy w' none) : PcsIn N w' a K c V A := h.ch (l := []) (Ch.of hg) (by simp)
structure ImgY (v : AkV) (n : Nat) (Ls : Nat → Nat → Bool) (cv dv : Value) (TF base : Nat) (w : World) : Prop where
 en : v.en = n
 nK : n < v.K
 ht : v.t = 1 ∨ v.t = 2
 K0 : 0 < v.K
 K33 : v.K ≤ 33
 lkd : Lk.Lkd v.t v.K v.V Ls
 own : OwnL w base cv (Lk.codeA v.t v.V (Lk.SS v.t v.V Ls) v.K)
 fn : OwnN w base (.slice (some ⟨TF, 0, none⟩) v.K v.K) v.K (Lk.pos (ends v.V (Lk.SS v.t v.V Ls)))
 ds : ∃ x y z, dv = .slice x y z
theorem ImgY.cs {v : AkV} {n : Nat} {Ls : Nat → Nat → Bool} {cv dv : Value} {TF base : Nat} {w : World} (h : ImgY v n Ls cv dv TF base w) : ∃ x y z, cv = .slice x y z := by
 rcases h.own.2 with ⟨e, _⟩ | ⟨g, c, cur, e, _⟩
 ·exact ⟨_, _, _, e⟩
 ·exact ⟨_, _, _, e⟩
theorem OwnB.bsIn' {w : World} {base n : Nat} {v : Value} {g : Nat → Int} (h : OwnB w base v n g) (hf : Mm.Fit g) : ∃ ao cap, v = .slice ao n cap ∧ BsIn w ao n cap g := by
 obtain ⟨ao, cap, rfl, h1, h2, h3, h4⟩ := h.shape
 refine ⟨ao, cap, rfl, ⟨h1, h2, h3, hf, h4, fun b off h0 e => ?_⟩⟩
 subst e
 rcases h.2 with ⟨e1, _⟩ | ⟨g', c', cur, e1, hb', hg', _⟩
 ·cases e1
 ·injection e1 with e1 e2 e3
  injection e1 with e1
  injection e1 with e1
  subst e1
  exact (Array.getElem?_eq_some_iff.1 hg').1
namespace Lk
def retV : InV := ⟨24, 0, 0, 0, 0, 0, 0, 0, 0⟩
def jmpV : InV := ⟨19, 0, 0, 0, 0, 0, 0, 0, 0⟩
theorem ret_may1 : Ru.mayT 1 (bare retV) = true := by decide
theorem ret_may2 : Ru.mayT 2 (bare retV) = true := by decide
theorem jmp_may1 : Ru.mayT 1 (bare jmpV) = true := by decide
theorem jmp_may2 : Ru.mayT 2 (bare jmpV) = true := by decide
theorem inst_ret {t : Int} (ht : t = 1 ∨ t = 2) (m p : Int) : instB t m p retV = true := by
 unfold instB
 have e : labB m p retV = true := by
  unfold labB
  rw [if_neg (by decide), if_neg (by decide)]
  rfl
 rw [e]
 rcases ht with rfl | rfl
 ·rw [ret_may1]; rfl
 ·rw [ret_may2]; rfl
theorem inst_jmp {t : Int} (ht : t = 1 ∨ t = 2) (p : Int) : instB t 1 p jmpV = true := by
 unfold instB
 have e : labB 1 p jmpV = true := by
  unfold labB
  rw [if_pos (by decide)]
  rfl
 rw [e]
 rcases ht with rfl | rfl
 ·rw [jmp_may1]; rfl
 ·rw [jmp_may2]; rfl
end Lk
theorem eq_ownL {w : World} {b1 b2 : Nat} {v1 v2 : Value} {l : List Int} (hn : (l.length : Int) ≤ 140737488351232) (h1 : OwnL w b1 v1 l) (h2 : OwnL w b2 v2 l) :
  Calls Tryz.prog 10 #[v1, v2] w fun e w' => e = .returned (.bool true) ∧ ∃ d, w' = w.drewN d := by
 obtain ⟨a1, c1, rfl, _, _, _, s1⟩ := h1.toB.shape
 obtain ⟨a2, c2, rfl, _, _, _, s2⟩ := h2.toB.shape
 exact eqB l.length c1 c2 a1 a2 _ _ w hn s1 s2 (fun _ _ => rfl)
end Go.Proofs.YtkiockffejlnhaaGreatDoor
namespace Go.Proofs.YtkiockffejlnhaaGreatDoor
set_option maxRecDepth 100000
set_option maxHeartbeats 32000000
open Go.RowKit
set_option linter.unusedVariables false
theorem num6_any (e : Int) (w : World) : Calls Tryz.prog 12 #[.int .i64 e] w fun r w' => r = .returned (.int .i64 e) ∧ w' = w := by
 go_enter Tryz.func12, Tryz.ntmps12
 go_wp2
 go_ret
 exact ⟨rfl, rfl⟩
namespace Lk
def wakeP : PcV := ⟨2, fun i => if i = 0 then jmpV else retV, 1, fun _ => 1⟩
theorem wake_ok : marksB wakeP = true ∧ instsB 2 1 wakeP = true := by
 refine ⟨marksB_iff.2 fun i hi => ?_, instsB_iff.2 fun i hi => ?_⟩
 ·show 0 ≤ (1 : Int) ∧ (1 : Int) ≤ ((2 : Nat) : Int)
  decide
 ·show instB 2 ((1 : Nat) : Int) 1 (if i = 0 then jmpV else retV) = true
  split
  ·exact inst_jmp (.inr rfl) 1
  ·exact inst_ret (.inr rfl) _ 1
theorem wake_code (S : Nat → Nat → Int) : codeA 2 (fun _ => wakeP) S 1 = [19, 0, 0, 24] := by
 have e0 : Lk.fin 2 (fun _ => wakeP) S 0 0 = lead jmpV 0 := by
  unfold Lk.fin
  rw [if_pos (by rfl)]
  show lead jmpV (pos (S 0) 1 - pos (S 0) 1) = lead jmpV 0
  rw [Int.sub_self]
 have e1 : Lk.fin 2 (fun _ => wakeP) S 0 1 = retV := by
  unfold Lk.fin
  rw [if_neg (by decide), if_neg (by decide)]
  rfl
 show ([] : List Int) ++ (([] ++ Ru.encT 2 (Lk.fin 2 (fun _ => wakeP) S 0 0)) ++ Ru.encT 2 (Lk.fin 2 (fun _ => wakeP) S 0 1)) = _
 rw [e0, e1]
 decide
theorem rng0 (v : InV) (h1 : v.imm = 0) (h2 : v.scale = 0) : InRng v := ⟨by rw [h1]; decide, by rw [h1]; decide, by rw [h2]; decide, by rw [h2]; decide⟩
end Lk
theorem heap_old (w : World) (o : Obj) {k : Nat} (hk : k < w.heap.size) : (w.alloc o).heap[k]? = w.heap[k]? := (World.grownBy_alloc w o none).block k hk (by simp)
theorem heap_at (w : World) (o : Obj) {k : Nat} (hk : k = w.heap.size) : (w.alloc o).heap[k]? = some o := by rw [hk]; exact heap_alloc_new _ _
theorem heap5 (w : World) (a b c d e : Obj) : (((((w.alloc a).alloc b).alloc c).alloc d).alloc e).heap[w.heap.size]? = some a ∧ (((((w.alloc a).alloc b).alloc c).alloc d).alloc e).heap[w.heap.size + 1]? = some b ∧ (((((w.alloc a).alloc b).alloc c).alloc d).alloc e).heap[w.heap.size + 1 + 1 + 1]? = some d ∧ (((((w.alloc a).alloc b).alloc c).alloc d).alloc e).heap[w.heap.size + 1 + 1 + 1 + 1]? = some e := by
 refine ⟨?_, ?_, ?_, ?_⟩
 ·rw [heap_old _ _ (by simp; omega), heap_old _ _ (by simp; omega), heap_old _ _ (by simp; omega), heap_old _ _ (by simp)]
  exact heap_at _ _ rfl
 ·rw [heap_old _ _ (by simp), heap_old _ _ (by simp), heap_old _ _ (by simp)]
  exact heap_at _ _ (by simp)
 ·rw [heap_old _ _ (by simp)]
  exact heap_at _ _ (by simp)
 ·exact heap_at _ _ (by simp)
theorem wakes6_any (w : World) (hT : TabAt w) : Calls Tryz.prog 16 #[] w fun e w' => e = .returned (.bool true) ∧ w.grownBy w' none := by
 have HL : Hid (∀ W : World, TabAt W → ∀ T0 T1 T2 T3, W.heap[T0]? = some (.cells #[.int .i64 19, .int .i64 0, .int .i64 0, .int .i64 0, .int .i64 0, .int .i64 0, .int .i64 0, .int .i64 0, .int .i64 0, .int .i64 24, .int .i64 0, .int .i64 0, .int .i64 0, .int .i64 0, .int .i64 0, .int .i64 0, .int .i64 0, .int .i64 0] 50 (0, 0)) → W.heap[T1]? = some (.cells #[.int .i64 1] 3 (0, 0)) →
   W.heap[T2]? = some (.cells #[.slice (some ⟨T0, 0, none⟩) 2 2, .slice (some ⟨T1, 0, none⟩) 1 1, .int .i64 0] 48 (0, 0)) → W.heap[T3]? = some (.cells #[.int .u8 5] 5 (0, 0)) →
   Calls Tryz.prog 8 #[.int .i64 2, .slice (some ⟨T2, 0, none⟩) 1 1, .slice (some ⟨T3, 0, none⟩) 1 1, .int .i64 0] W fun e w' => ∃ cv dv TF, e = .returned (.tuple #[.agg #[.int .i64 2, cv, dv, .int .i64 0, .slice (some ⟨TF, 0, none⟩) 1 1], .int .i64 0]) ∧ OwnL w' W.heap.size cv [19, 0, 0, 24] ∧ OwnL w' W.heap.size dv [5] ∧ W.grownBy w' none) := by
  intro W hW T0 T1 T2 T3 h0 h1 h2 h3
  have l0 : T0 < W.heap.size := (Array.getElem?_eq_some_iff.1 h0).1
  have l1 : T1 < W.heap.size := (Array.getElem?_eq_some_iff.1 h1).1
  have l2 : T2 < W.heap.size := (Array.getElem?_eq_some_iff.1 h2).1
  have l3 : T3 < W.heap.size := (Array.getElem?_eq_some_iff.1 h3).1
  have hp : PcsIn W.heap.size W (some ⟨T2, 0, none⟩) 1 1 (fun _ => Lk.wakeP) (fun _ => ⟨some ⟨T0, 0, none⟩, 2, some ⟨T1, 0, none⟩, 1, 0⟩) := by
   refine ⟨Nat.le_refl _, by unfold maxLen; omega, .inr ⟨T2, 0, rfl, l2, fun k hk => ?_⟩⟩
   obtain rfl : k = 0 := by omega
   refine ⟨by simp [World.cell?, h2]; rfl, by simp [World.cell?, h2]; rfl, by simp [World.cell?, h2], ?_, ?_⟩
   ·refine ⟨Nat.le_refl _, by show (2 : Nat) ≤ maxLen; unfold maxLen; omega, .inr ⟨T0, 0, rfl, l0, fun i hi => ?_⟩, fun i hi => ?_⟩
    ·have : i = 0 ∨ i = 1 := by have : i < 2 := hi; omega
     rcases this with rfl | rfl
     ·constructor <;> simp [World.cell?, h0, Lk.wakeP, Lk.jmpV]
     ·constructor <;> simp [World.cell?, h0, Lk.wakeP, Lk.retV]
    ·show InRng (if i = 0 then Lk.jmpV else Lk.retV)
     split <;> exact Lk.rng0 _ rfl rfl
   ·refine ⟨Nat.le_refl _, by show (1 : Nat) ≤ maxLen; unfold maxLen; omega, .inr ⟨T1, 0, rfl, l1, fun i hi => ?_⟩⟩
    obtain rfl : i = 0 := by have : i < 1 := hi; omega
    simp [World.cell?, h1, Lk.wakeP]
  have hB : Lk.piecesB 2 1 (fun _ => Lk.wakeP) = true := Lk.piecesB_iff.2 fun k hk => Lk.wake_ok
  have hd : Bs W (some ⟨T3, 0, none⟩) 1 (fun _ => 5) := .inr ⟨T3, 0, rfl, fun i hi => by
   obtain rfl : i = 0 := by omega
   simp [World.cell?, h3]⟩
  refine (link_c (en := 0) (dg := fun _ => 5) hp hW (by decide) (by decide) (fun k hk => by show ((2 : Nat) : Int) ≤ _; decide) hB (by decide) (fun h => by cases h) hd (fun b off _ e => by injection e with e; injection e with e; subst e; exact l3) (by decide)).mono ?_
  rintro e w' ⟨g, Ls, hLs, hr⟩
  rcases hr with ⟨hbig, _⟩ | ⟨_, _, cv, dv, TF, rfl, oc, od, _⟩
  ·exfalso
   rcases hbig with hb | hb
   ·omega
   ·have h6 := pos_lim (n := 1) (s := ends (fun _ => Lk.wakeP) (Lk.SS 2 (fun _ => Lk.wakeP) Ls)) (B := 80) (fun j hj => by
     obtain rfl : j = 0 := by omega
     have := pos_lim (n := 2) (s := Lk.SS 2 (fun _ => Lk.wakeP) Ls 0) (B := 40) (fun i hi => by
      have := Lk.size_le (Lk.PcV.ok_of Lk.wake_ok.1 Lk.wake_ok.2) (Ls 0) (i := i) hi
      show 0 ≤ (Lk.wakeP.sh 2).size (Ls 0) i ∧ (Lk.wakeP.sh 2).size (Ls 0) i ≤ 40
      omega)
     show 0 ≤ Lk.pos (Lk.SS 2 (fun _ => Lk.wakeP) Ls 0) 2 ∧ Lk.pos (Lk.SS 2 (fun _ => Lk.wakeP) Ls 0) 2 ≤ 80
     omega)
    omega
  ·rw [Lk.wake_code] at oc
   exact ⟨cv, dv, TF, rfl, oc, OwnB.toL od, g⟩
 have HT : Hid (TabAt w) := hT
 clear hT
 have HE1 : Hid (∀ (W : World) ac cc, OwnL W 0 (.slice ac 4 cc) [19, 0, 0, 24] → Calls Tryz.prog 10 #[.slice ac 4 cc, .slice (some ⟨W.heap.size, 0, none⟩) 4 4] (W.alloc (.cells #[.int .u8 19, .int .u8 0, .int .u8 0, .int .u8 24] 5)) fun e w' => e = .returned (.bool true) ∧ W.grownBy w' none) := fun W ac cc h =>
  (eq_ownL (by decide) (OwnL.grow h (World.grownBy_alloc _ _ none)) (OwnL.lit W 0 [19, 0, 0, 24] (Nat.zero_le _) (by show 4 ≤ maxLen; unfold maxLen; omega))).mono (by rintro e w' ⟨rfl, d, rfl⟩; exact ⟨rfl, gn gal _⟩)
 have HE2 : Hid (∀ (W : World) ac cc, OwnL W 0 (.slice ac 1 cc) [5] → Calls Tryz.prog 10 #[.slice ac 1 cc, .slice (some ⟨W.heap.size, 0, none⟩) 1 1] (W.alloc (.cells #[.int .u8 5] 5)) fun e w' => e = .returned (.bool true) ∧ W.grownBy w' none) := fun W ac cc h =>
  (eq_ownL (by decide) (OwnL.grow h (World.grownBy_alloc _ _ none)) (OwnL.lit W 0 [5] (Nat.zero_le _) (by show 1 ≤ maxLen; unfold maxLen; omega))).mono (by rintro e w' ⟨rfl, d, rfl⟩; exact ⟨rfl, gn gal _⟩)
 go_enter Tryz.func16, Tryz.ntmps16
 go_wp2_with (first
  | (go_at_call 8; refine (HL.out _ (((((HT.out.kept (World.grownBy_alloc _ _ none) (by simp)).kept (World.grownBy_alloc _ _ none) (by simp)).kept (World.grownBy_alloc _ _ none) (by simp)).kept (World.grownBy_alloc _ _ none) (by simp)).kept (World.grownBy_alloc _ _ none) (by simp)) w.heap.size (w.heap.size + 1) (w.heap.size + 1 + 1 + 1) (w.heap.size + 1 + 1 + 1 + 1) (heap5 w _ _ _ _ _).1 (heap5 w _ _ _ _ _).2.1 (heap5 w _ _ _ _ _).2.2.1 (heap5 w _ _ _ _ _).2.2.2).mono ?_; rintro e w1 ⟨cv, dv, TF, rfl, oc, od, g1⟩; obtain ⟨ac, cc, rfl, _⟩ := oc.toB.shape; obtain ⟨ad, cd, rfl, _⟩ := od.toB.shape; have G1 : Hid (w.grownBy w1 none) := gtr (ga (ga (ga (ga gal _) _) _) _) g1; have OC : Hid (OwnL w1 0 (.slice ac 4 cc) [19, 0, 0, 24]) := OwnL.low oc (Nat.zero_le _); have OD : Hid (OwnL w1 0 (.slice ad 1 cd) [5]) := OwnL.low od (Nat.zero_le _); clear g1 oc od)
  | (go_at_call 12; refine (num6_any _ _).mono ?_; rintro e w2 ⟨rfl, hw2⟩; rw [hw2]; clear hw2 w2))
 have C2 : (w1.alloc (.cells #[.int .i64 2, .slice ac 4 cc, .slice ad 1 cd, .int .i64 0, .slice (some ⟨TF, 0, none⟩) 1 1] 32)).cell? ⟨w1.heap.size, 2, none⟩ = some (.slice ad 1 cd) := by simp
 have GB := World.grownBy_alloc w1 (.cells #[.int .i64 2, .slice ac 4 cc, .slice ad 1 cd, .int .i64 0, .slice (some ⟨TF, 0, none⟩) 1 1] 32) none
 have OC2 := OwnL.grow OC.out GB
 have OD2 := OwnL.grow OD.out GB
 have G2 : Hid (w.grownBy (w1.alloc (.cells #[.int .i64 2, .slice ac 4 cc, .slice ad 1 cd, .int .i64 0, .slice (some ⟨TF, 0, none⟩) 1 1] 32)) none) := gtr G1.out GB
 have hs : (w1.alloc (.cells #[.int .i64 2, .slice ac 4 cc, .slice ad 1 cd, .int .i64 0, .slice (some ⟨TF, 0, none⟩) 1 1] 32)).heap.size = w1.heap.size + 1 := by simp
 obtain ⟨WB, hWB⟩ : ∃ WB, WB = w1.alloc (.cells #[.int .i64 2, .slice ac 4 cc, .slice ad 1 cd, .int .i64 0, .slice (some ⟨TF, 0, none⟩) 1 1] 32) := ⟨_, rfl⟩
 rw [← hWB] at C2 OC2 OD2 G2 hs ⊢
 clear hWB GB OC OD G1
 have h1 := HE1.out WB ac cc OC2
 rw [hs] at h1
 refine h1.mono ?_
 rintro e w3 ⟨rfl, g3⟩
 have C3 := g3.cell C2 (by simp)
 have OD3 : Hid (OwnL w3 0 (.slice ad 1 cd) [5]) := OwnL.grow OD2 g3
 have G3 : Hid (w.grownBy w3 none) := gtr G2.out g3
 clear h1 hs C2 OC2 OD2 G2 g3
 go_wp2_with (go_at_call 10; refine (HE2.out w3 ad cd OD3.out).mono ?_; rintro e w4 ⟨rfl, g4⟩)
 go_ret
 exact ⟨rfl, gtr G3.out g4⟩
end Go.Proofs.YtkiockffejlnhaaGreatDoor
namespace Go.Proofs.YtkiockffejlnhaaGreatDoor
open Go.RowKit
set_option linter.unusedVariables false
section
variable {P : Program} {ops : Array Oper} {R : World → World → Prop}
end
namespace Lk
theorem Lkd.at {t : Int} {K : Nat} {V : Nat → PcV} {Ls : Nat → Nat → Bool} (h : Lkd t K V Ls) {k : Nat} (hk : k < K) {i : Nat} (hi : i < (V k).n) :
  ∃ p : Nat, pos (ends V (SS t V Ls)) k + pos (SS t V Ls k) i = p ∧ p + (Ru.encT t (Lk.fin t V (SS t V Ls) k i)).length ≤ (codeA t V (SS t V Ls) K).length ∧ ∀ j, j < (Ru.encT t (Lk.fin t V (SS t V Ls) k i)).length → (codeA t V (SS t V Ls) K).getD (p + j) 0 = (Ru.encT t (Lk.fin t V (SS t V Ls) k i)).getD j 0 := by
 have h1 := h.lenA (k := k) (by omega)
 have h2 := h.lenP hk (i := i) (by omega)
 obtain ⟨s, hs⟩ := code_split (t := t) (K := K) (V := V) (S := SS t V Ls) hk hi
 refine ⟨(codeA t V (SS t V Ls) k ++ codeP t V (SS t V Ls) k i).length, ?_, ?_, fun j hj => ?_⟩
 ·rw [List.length_append]; omega
 ·rw [hs]; simp only [List.length_append]; omega
 ·rw [hs, List.getD_eq_getElem?_getD, List.getElem?_append_right (by omega), Nat.add_sub_cancel_left, List.getElem?_append_left hj, List.getD_eq_getElem?_getD]
end Lk
def RelN (RB : Nat) (v : InV) (w w' : World) : Prop := Ch w w' [RB] ∧ (InstAt w RB v → InstAt w' RB v) ∧ ((∃ u, InstAt w RB u) → ∃ u, InstAt w' RB u)
theorem RelN.refl {RB : Nat} {v : InV} (w : World) : RelN RB v w w := ⟨Ch.refl _ _, id, id⟩
theorem RelN.trans {RB : Nat} {v : InV} {w w1 w2 : World} (h : RelN RB v w w1) (k : RelN RB v w1 w2) : RelN RB v w w2 := ⟨h.1.trans k.1, fun x => k.2.1 (h.2.1 x), fun x => k.2.2 (h.2.2 x)⟩
theorem RelN.put {RB : Nat} {v u : InV} {w : World} (h : InstAt w RB u) : RelN RB v w (put9 w RB v) := ⟨Ch.one (grown_put9 _ _ _) (by simp), fun _ => h.put9 v, fun _ => ⟨v, h.put9 v⟩⟩
-- next, target 1
-- next, target 2
namespace Lk
end Lk
theorem wp_appZ1 {ops : Array Oper} {rest : List Oper} {o : Oper} {a : Act} {Q : Exit → Act → World → Prop} {W : World} (hgd : o.guard = none) (s x : Operand)
  (ho : o.op = .call { callee := .builtin .append, args := #[s, x], argTypes := #[30, 30] }) (base : Nat) (v : Value) (l : List Int) (X : Int) (hs : a.eval s = v) (hown : OwnZ W base v l)
  {nb : Nat} (hx : a.eval x = .slice (some ⟨nb, 0, none⟩) 1 1) (hnb : nb = W.heap.size) (hl : l.length ≤ 2000000) (hb : base ≤ W.heap.size)
  (h : ∀ v' w', OwnZ w' base v' (l ++ [X]) → W.grownBy w' v.ownBlock → wpList Tryz.prog ops Q rest (a.put o.dst v') w') : wpList Tryz.prog ops Q (o :: rest) a (W.alloc (Obj.cells #[.int .i64 X] 3)) := by
 subst hnb
 obtain ⟨i, hi, hz0, hz1, hz2⟩ := info_parts info_int
 refine wpList_append_own _ hgd s x 30 ho base 3 i _ 1 8 Tryz.underlying30 hi hz0 hz1 hz2 rfl (by decide) v l.length (l.map (Value.int .i64)) hs (World.ownsRow.alloc hown _) ⟨W.heap.size, 0, none⟩ 1 1 [.int .i64 X] hx rfl
  (by intro j y hj; rw [addr_add, Nat.zero_add, cells_new _ _ rfl]; rw [← hj]; simp) (by intro y hy; simp at hy; subst hy; rfl) (by unfold maxLen; omega) (by omega) (by simp; omega) ?_
 intro v' w2 ho2 hg2 _
 refine h v' w2 ?_ (gtr (grown_noneR _ gal) hg2)
 unfold OwnZ
 rw [List.length_append, List.map_append]
 simpa using ho2
theorem apartZI {w : World} {b1 b2 : Nat} {v1 v2 : Value} {l : List Int} {m : List InV} (h1 : OwnZ w b1 v1 l) (h2 : OwnI w b2 v2 m) : (v2.ownBlock = none ∨ v2.ownBlock ≠ v1.ownBlock) ∧ (v1.ownBlock = none ∨ v1.ownBlock ≠ v2.ownBlock) := by
 rcases h1.2 with ⟨rfl, _⟩ | ⟨g1, c1, cur1, rfl, _, e1, _⟩
 ·refine ⟨?_, .inl rfl⟩
  cases hv : v2.ownBlock
  ·exact .inl rfl
  ·exact .inr (by simp [Value.ownBlock])
 ·rcases h2.2 with ⟨rfl, _⟩ | ⟨g2, c2, cur2, rfl, _, e2, _⟩
  ·exact ⟨.inl rfl, .inr (by simp [Value.ownBlock])⟩
  ·have hne : g1 ≠ g2 := by
    intro e
    subst e
    rw [e1] at e2
    simp at e2
   exact ⟨.inr (by simp [Value.ownBlock]; exact fun e => hne e.symm), .inr (by simp [Value.ownBlock, hne])⟩
def eqV (x : Value) : Value → World → Prop := fun v _ => v = x
def psiL (L : List (Value → World → Prop)) (i : Nat) (v : Value) (w : World) : Prop := L.getD i (fun _ _ => False) v w
def StabV (f : Value → World → Prop) : Prop := ∀ v w w', f v w → w.grownBy w' none → f v w'
theorem stab_eq (x : Value) : StabV (eqV x) := fun _ _ _ h _ => h
def StabL : List (Value → World → Prop) → Prop
 | [] => True
 | f :: l => StabV f ∧ StabL l
theorem psiL_stable : ∀ {L : List (Value → World → Prop)}, StabL L → ∀ {i : Nat} {v : Value} {w w' : World}, psiL L i v w → w.grownBy w' none → psiL L i v w'
 | [], _, _, _, _, _, h, _ => by simp [psiL] at h
 | f :: l, hs, 0, v, w, w', h, g => hs.1 v w w' h g
 | f :: l, hs, i + 1, v, w, w', h, g => by
  have := psiL_stable (i := i) hs.2 (by simpa [psiL] using h) g
  simpa [psiL] using this
theorem psiL_eq {L : List (Value → World → Prop)} {i : Nat} {v x : Value} {w : World} (h : psiL L i v w) (e : L[i]? = some (eqV x)) : v = x := by
 unfold psiL at h
 rw [List.getD_eq_getElem?_getD, e] at h
 exact h
theorem stab_nil : StabL [] := trivial
theorem stab_cons {f : Value → World → Prop} {l : List (Value → World → Prop)} (h1 : StabV f) (h2 : StabL l) : StabL (f :: l) := ⟨h1, h2⟩
theorem psiL_hst {n : Nat} {L : List (Value → World → Prop)} (h : StabL L) : ∀ i v w w', i < n → psiL L i v w → w.grownBy w' none → psiL L i v w' := fun _ _ _ _ _ h1 g => psiL_stable h h1 g
end Go.Proofs.YtkiockffejlnhaaGreatDoor
namespace Go.Proofs.YtkiockffejlnhaaGreatDoor
set_option maxRecDepth 100000
set_option maxHeartbeats 32000000
open Go.RowKit
set_option linter.unusedVariables false
structure FarIn (w : World) (fa : Option Addr) (n fc : Nat) (L : Nat → Bool) : Prop where
 le : n ≤ fc
 lie : n = 0 ∨ ∃ b off, fa = some ⟨b, off, none⟩ ∧ ∀ i, i < n → w.cell? ⟨b, off + i, none⟩ = some (.bool (L i))
theorem FarIn.grow {w w' : World} {fa : Option Addr} {n fc : Nat} {L : Nat → Bool} (h : FarIn w fa n fc L) (g : w.grownBy w' none) : FarIn w' fa n fc L :=
 ⟨h.le, by
  rcases h.lie with h0 | ⟨b, off, e, hc⟩
  ·exact .inl h0
  ·exact .inr ⟨b, off, e, fun i hi => g.cell (hc i hi) (by simp)⟩⟩
theorem FarIn.at {w : World} {fa : Option Addr} {n fc : Nat} {L : Nat → Bool} (h : FarIn w fa n fc L) {i : Nat} (hi : i < n) : ∃ b off, fa = some ⟨b, off, none⟩ ∧ w.cell? ⟨b, off + i, none⟩ = some (.bool (L i)) := by
 rcases h.lie with h0 | ⟨b, off, e, hc⟩
 ·omega
 ·exact ⟨b, off, e, hc i hi⟩
theorem wp_appZw {ops : Array Oper} {rest : List Oper} {o : Oper} {a : Act} {Q : Exit → Act → World → Prop} {W : World} (hgd : o.guard = none) (s x : Operand)
  (ho : o.op = .call { callee := .builtin .append, args := #[s, x], argTypes := #[30, 30] }) (base : Nat) (v : Value) (l : List Int) (X : Int) (hs : a.eval s = v) (hown : OwnZ W base v l)
  {nb : Nat} (hx : a.eval x = .slice (some ⟨nb, 0, none⟩) 1 1) (hnb : nb = W.heap.size) (hl : l.length ≤ 2000000000000) (hb : base ≤ W.heap.size)
  (h : ∀ v' w', OwnZ w' base v' (l ++ [X]) → W.grownBy w' v.ownBlock → wpList Tryz.prog ops Q rest (a.put o.dst v') w') : wpList Tryz.prog ops Q (o :: rest) a (W.alloc (Obj.cells #[.int .i64 X] 3)) := by
 subst hnb
 obtain ⟨i, hi, hz0, hz1, hz2⟩ := info_parts info_int
 refine wpList_append_own _ hgd s x 30 ho base 3 i _ 1 8 Tryz.underlying30 hi hz0 hz1 hz2 rfl (by decide) v l.length (l.map (Value.int .i64)) hs (World.ownsRow.alloc hown _) ⟨W.heap.size, 0, none⟩ 1 1 [.int .i64 X] hx rfl
  (by intro j y hj; rw [addr_add, Nat.zero_add, cells_new _ _ rfl]; rw [← hj]; simp) (by intro y hy; simp at hy; subst hy; rfl) (by unfold maxLen; omega) (by omega) (by simp; omega) ?_
 intro v' w2 ho2 hg2 _
 refine h v' w2 ?_ (gtr (grown_noneR _ gal) hg2)
 unfold OwnZ
 rw [List.length_append, List.map_append]
 simpa using ho2
theorem szT_rng {t : Int} (ht : t = 1 ∨ t = 2) (v : InV) (far : Bool) : 0 ≤ szT t v far ∧ szT t v far ≤ 33 := by
 unfold szT
 have := (Ru.encT_len t (Lk.bare v)).2
 split
 ·unfold Lk.long; split <;> omega
 ·omega
theorem pos_rng {S : Nat → Int} (hS : ∀ i, 0 ≤ S i ∧ S i ≤ 33) : ∀ k : Nat, 0 ≤ Lk.pos S k ∧ Lk.pos S k ≤ 33 * (k : Int)
 | 0 => by simp [Lk.pos]
 | k + 1 => by
  have := pos_rng hS k
  have := hS k
  rw [Lk.pos_succ]
  omega
theorem rplaces6_any {t : Int} (ht : t = 1 ∨ t = 2) {N : Nat} {w : World} {n ic m mc : Nat} {ia ma fa : Option Addr} {out : Int} {I : Nat → InV} (h : InsIn N w ia n ic I) {fc : Nat} {L : Nat → Bool} (hf : FarIn w fa n fc L) (hn : (n : Int) ≤ 1954687338212) :
  Calls Tryz.prog 51 #[.int .i64 t, .agg #[.slice ia n ic, .slice ma m mc, .int .i64 out], .slice fa n fc] w fun e w' => ∃ v, e = .returned v ∧ OwnZ w' w.heap.size v ((List.range (n + 1)).map (Lk.pos (fun i => szT t (I i) (L i)))) ∧ w.grownBy w' none := by
 have hle := h.le
 have hmx := h.max
 have hfl := hf.le
 unfold maxLen at hmx
 obtain ⟨S, hS⟩ : ∃ S : Nat → Int, S = fun i => szT t (I i) (L i) := ⟨_, rfl⟩
 have HSr : Hid (∀ k : Nat, 0 ≤ Lk.pos S k ∧ Lk.pos S k ≤ 33 * (k : Int)) := fun k => pos_rng (fun i => by rw [hS]; exact szT_rng ht _ _) k
 have HSi : Hid (∀ i W, Calls Tryz.prog 70 #[.int .i64 t, .agg #[.int .i64 (I i).op, .int .i64 (I i).a, .int .i64 (I i).b, .int .i64 (I i).c, .int .i64 (I i).k, .int .i64 (I i).sub, .int .i64 (I i).scale, .int .i64 (I i).imm, .int .i64 (I i).label], .bool (L i)] W fun e w' => e = .returned (.int .i64 (S i)) ∧ W.grownBy w' none) := fun i W => by rw [hS]; exact rsize6_any ht (I i) (L i) W
 rw [← hS]
 clear hS
 obtain ⟨B, hB⟩ : ∃ B, B = w.heap.size := ⟨_, rfl⟩
 obtain ⟨W1, hW1⟩ : ∃ W1, W1 = w.alloc (.cells #[.slice ia n ic, .slice ma m mc, .int .i64 out] 48) := ⟨_, rfl⟩
 have g1 : w.grownBy W1 none := by rw [hW1]; exact gal
 have s1 : W1.heap.size = B + 1 := by rw [hW1, hB]; simp
 have d0 : W1.cell? ⟨B, 0, none⟩ = some (.slice ia n ic) := by rw [hW1, hB]; exact cells_new _ _ rfl _
 have HI : Hid (∀ W, W1.grownBy W none → InsIn N W ia n ic I) := fun W g => h.grow (gtr g1 g)
 have HF : Hid (∀ W, W1.grownBy W none → FarIn W fa n fc L) := fun W g => hf.grow (gtr g1 g)
 have HB : Hid (B = w.heap.size ∧ w.grownBy W1 none ∧ W1.heap.size = B + 1) := ⟨hB, g1, s1⟩
 have HW1 : Hid (W1 = w.alloc (.cells #[.slice ia n ic, .slice ma m mc, .int .i64 out] 48)) := hW1
 have D0 : Hid (W1.cell? ⟨B, 0, none⟩ = some (.slice ia n ic)) := d0
 clear h hf hW1 g1 s1 d0
 go_enter Tryz.func51, Tryz.ntmps51
 go_wp2_with fail
 rw [← HW1.out, ← HB.out.1]
 clear hB
 go_loopw [7, 8, 9] (fun u x j wr => ∃ k : Nat, j = .int .i64 k ∧ k ≤ n ∧ x = .int .i64 (Lk.pos S k) ∧ OwnZ wr W1.heap.size u ((List.range k).map (Lk.pos S)) ∧ W1.grownBy wr none) (fun _ _ j _ => n - (intOf j).toNat)
 case atStart => exact ⟨0, rfl, Nat.zero_le _, rfl, World.ownsRow_nil _ _ _ _, gr0⟩
 case round =>
  obtain ⟨k, rfl, hk, rfl, ho, hg⟩ := hrel
  have HO : Hid (OwnZ wr W1.heap.size _ ((List.range k).map (Lk.pos S))) := ho
  have HG : Hid (W1.grownBy wr none) := hg
  have hsz := hg.size
  have d0 := hg.cell D0.out (by simp)
  have hp := HSr.out k
  have hp1 := HSr.out (k + 1)
  rw [Lk.pos_succ] at hp1
  by_cases hkn : k < n
  ·have hkn' : (k : Int) < n := by omega
   clear ho hg
   obtain ⟨x, hx⟩ : ∃ x, x = Lk.pos S k := ⟨_, rfl⟩
   obtain ⟨y, hy⟩ : ∃ y, y = S k := ⟨_, rfl⟩
   rw [← hx] at hp hp1 ⊢
   rw [← hy] at hp1
   have HX : Hid (x + y = Lk.pos S (k + 1)) := by show _ = _; rw [Lk.pos_succ, hx, hy]
   have HXk : Hid (x = Lk.pos S k) := hx
   have HSk : Hid (∀ W, Calls Tryz.prog 70 #[.int .i64 t, .agg #[.int .i64 (I k).op, .int .i64 (I k).a, .int .i64 (I k).b, .int .i64 (I k).c, .int .i64 (I k).k, .int .i64 (I k).sub, .int .i64 (I k).scale, .int .i64 (I k).imm, .int .i64 (I k).label], .bool (L k)] W fun e w' => e = .returned (.int .i64 y) ∧ W.grownBy w' none) := by rw [hy]; exact HSi.out k
   clear hx hy
   go_wp2_with (at_builtin; refine wp_appZw rfl _ _ rfl W1.heap.size u7 ((List.range k).map (Lk.pos S)) x rfl HO.out rfl rfl (by simp; omega) (by omega) ?_; intro v6 w6 ho6 hg6)
   have hg6' : W1.grownBy w6 none := ((Ch.of (l := u7.ownBlock.toList) HG.out).trans (grown_ch hg6)).nil (fun q hq => HO.out.base q (by simpa using hq))
   have HO6 : Hid (OwnZ w6 W1.heap.size v6 ((List.range (k + 1)).map (Lk.pos S))) := by
    show OwnZ _ _ _ _
    rw [List.range_succ, List.map_append]
    have := ho6
    rw [HXk.out] at this
    exact this
   have HG6 : Hid (W1.grownBy w6 none) := hg6'
   obtain ⟨ib, io, rfl, hib, hi9, hir⟩ := (HI.out w6 hg6').at hkn
   obtain ⟨fb, fo, rfl, hfk⟩ := (HF.out w6 hg6').at hkn
   have d0 := hg6'.cell D0.out (by simp)
   clear hg6 hg6' ho6 hir
   obtain ⟨i0, i1, i2, i3, i4, i5, i6, i7, i8⟩ := hi9
   generalize I k = v at *
   generalize L k = fk at *
   have HS : Hid (∀ W, Calls Tryz.prog 70 #[.int .i64 t, .agg #[.int .i64 v.op, .int .i64 v.a, .int .i64 v.b, .int .i64 v.c, .int .i64 v.k, .int .i64 v.sub, .int .i64 v.scale, .int .i64 v.imm, .int .i64 v.label], .bool fk] W fun e w' => e = .returned (.int .i64 y) ∧ W.grownBy w' none) := HSk.out
   refine region_src 12 (psiL [eqV (.int .i64 x), eqV (.int .i64 t), eqV (.pointer (some ⟨B, 0, none⟩)), eqV (.slice (some ⟨ib, io, none⟩) n ic), eqV (.int .i64 (k : Int)), eqV (.pointer (some ⟨ib, io + k * 9, none⟩)), eqV (.agg #[.int .i64 (v.op), .int .i64 (v.a), .int .i64 (v.b), .int .i64 (v.c), .int .i64 (v.k), .int .i64 (v.sub), .int .i64 (v.scale), .int .i64 (v.imm), .int .i64 (v.label)]), eqV (.slice (some ⟨fb, fo, none⟩) n fc), eqV (.int .i64 (k : Int)), eqV (.pointer (some ⟨fb, fo + k, none⟩)), eqV (.bool fk), eqV (.int .i64 y)]) (by kernel_rfl) (by kernel_rfl) (by kernel_rfl) (by kernel_rfl) (psiL_hst (by repeat (first | exact stab_nil | refine stab_cons ?_ ?_ | exact stab_eq _))) ?_ ?_
   ·simp only [List.take_succ_cons, List.take_zero]
    refine ⟨?_, ?_, ?_, ?_, ?_, ?_, ?_, ?_, ?_, ?_, ?_, ?_, trivial⟩
    ·intro VV W0 AA g hV hs hz
     have e08 := hz 8 (.int .i64 x) (by kernel_rfl) rfl
     refine ov (v := .int .i64 x) ?_ rfl
     simp [go_sem, e08]
    ·intro VV W0 AA g hV hs hz
     have e00 := hz 0 (.int .i64 t) (by kernel_rfl) rfl
     refine ov (v := .int .i64 t) ?_ rfl
     simp [go_sem, e00]
    ·intro VV W0 AA g hV hs hz
     have e04 := hz 4 (.pointer (some ⟨B, 0, none⟩)) (by kernel_rfl) rfl
     refine ov (v := .pointer (some ⟨B, 0, none⟩)) ?_ rfl
     simp [go_sem, e04]
    ·intro VV W0 AA g hV hs hz
     have gD : w6.grownBy W0 none := gdd g
     have q2 := psiL_eq (hV 2 (by kernel_rfl)) rfl
     have e2 := hs 23 2 (by kernel_rfl) (by kernel_rfl)
     have x0 := gD.cell d0 (by simp)
     refine ov (v := .slice (some ⟨ib, io, none⟩) n ic) ?_ rfl
     simp [go_sem, q2, e2, x0]
    ·intro VV W0 AA g hV hs hz
     have e09 := hz 9 (.int .i64 (k : Int)) (by kernel_rfl) rfl
     refine ov (v := .int .i64 (k : Int)) ?_ rfl
     simp [go_sem, e09]
    ·intro VV W0 AA g hV hs hz
     have q3 := psiL_eq (hV 3 (by kernel_rfl)) rfl
     have e3 := hs 24 3 (by kernel_rfl) (by kernel_rfl)
     have q4 := psiL_eq (hV 4 (by kernel_rfl)) rfl
     have e4 := hs 25 4 (by kernel_rfl) (by kernel_rfl)
     refine ov (v := .pointer (some ⟨ib, io + k * 9, none⟩)) ?_ rfl
     simp [go_sem, q3, e3, q4, e4, hkn']
    ·intro VV W0 AA g hV hs hz
     have gD : w6.grownBy W0 none := gdd g
     have q5 := psiL_eq (hV 5 (by kernel_rfl)) rfl
     have e5 := hs 26 5 (by kernel_rfl) (by kernel_rfl)
     have x0 := gD.cell i0 (by simp)
     have x1 := gD.cell i1 (by simp)
     have x2 := gD.cell i2 (by simp)
     have x3 := gD.cell i3 (by simp)
     have x4 := gD.cell i4 (by simp)
     have x5 := gD.cell i5 (by simp)
     have x6 := gD.cell i6 (by simp)
     have x7 := gD.cell i7 (by simp)
     have x8 := gD.cell i8 (by simp)
     refine ov (v := .agg #[.int .i64 (v.op), .int .i64 (v.a), .int .i64 (v.b), .int .i64 (v.c), .int .i64 (v.k), .int .i64 (v.sub), .int .i64 (v.scale), .int .i64 (v.imm), .int .i64 (v.label)]) ?_ rfl
     simp [go_sem, q5, e5, x0, x1, x2, x3, x4, x5, x6, x7, x8]
    ·intro VV W0 AA g hV hs hz
     have e02 := hz 2 (.slice (some ⟨fb, fo, none⟩) n fc) (by kernel_rfl) rfl
     refine ov (v := .slice (some ⟨fb, fo, none⟩) n fc) ?_ rfl
     simp [go_sem, e02]
    ·intro VV W0 AA g hV hs hz
     have e09 := hz 9 (.int .i64 (k : Int)) (by kernel_rfl) rfl
     refine ov (v := .int .i64 (k : Int)) ?_ rfl
     simp [go_sem, e09]
    ·intro VV W0 AA g hV hs hz
     have q7 := psiL_eq (hV 7 (by kernel_rfl)) rfl
     have e7 := hs 28 7 (by kernel_rfl) (by kernel_rfl)
     have q8 := psiL_eq (hV 8 (by kernel_rfl)) rfl
     have e8 := hs 29 8 (by kernel_rfl) (by kernel_rfl)
     refine ov (v := .pointer (some ⟨fb, fo + k, none⟩)) ?_ rfl
     simp [go_sem, q7, e7, q8, e8, hkn']
    ·intro VV W0 AA g hV hs hz
     have gD : w6.grownBy W0 none := gdd g
     have q9 := psiL_eq (hV 9 (by kernel_rfl)) rfl
     have e9 := hs 30 9 (by kernel_rfl) (by kernel_rfl)
     have x0 := gD.cell hfk (by simp)
     refine ov (v := .bool fk) ?_ rfl
     simp [go_sem, q9, e9, x0]
    ·intro VV W0 AA g hV hs hz
     have q1 := psiL_eq (hV 1 (by kernel_rfl)) rfl
     have e1 := hs 22 1 (by kernel_rfl) (by kernel_rfl)
     have q6 := psiL_eq (hV 6 (by kernel_rfl)) rfl
     have e6 := hs 27 6 (by kernel_rfl) (by kernel_rfl)
     have q10 := psiL_eq (hV 10 (by kernel_rfl)) rfl
     have e10 := hs 31 10 (by kernel_rfl) (by kernel_rfl)
     refine outO_call (f := 70) ?_ ((HS.out W0).mono fun e w2 ⟨he, hg⟩ => ⟨_, he, hg, rfl⟩)
     simp [go_sem, q1, e1, q6, e6, q10, e10]
   ·intro VV W0 g hV
    have gD : w6.grownBy W0 none := gdd g
    have h0 := psiL_eq (hV 0 (by decide)) rfl
    have h1 := psiL_eq (hV 1 (by decide)) rfl
    have h2 := psiL_eq (hV 2 (by decide)) rfl
    have h3 := psiL_eq (hV 3 (by decide)) rfl
    have h4 := psiL_eq (hV 4 (by decide)) rfl
    have h5 := psiL_eq (hV 5 (by decide)) rfl
    have h6 := psiL_eq (hV 6 (by decide)) rfl
    have h7 := psiL_eq (hV 7 (by decide)) rfl
    have h8 := psiL_eq (hV 8 (by decide)) rfl
    have h9 := psiL_eq (hV 9 (by decide)) rfl
    have h10 := psiL_eq (hV 10 (by decide)) rfl
    have h11 := psiL_eq (hV 11 (by decide)) rfl
    simp [frV, dstOf, Act.put, h0, h1, h2, h3, h4, h5, h6, h7, h8, h9, h10, h11]
    clear h0 h1 h2 h3 h4 h5 h6 h7 h8 h9 h10 h11 hV g
    have GR : Hid (w6.grownBy W0 none) := gD
    clear gD
    go_wp2_with fail
    go_roundw
    case rel => exact ⟨k + 1, by go_num, by omega, (congrArg (Value.int IntKind.i64) HX.out), HO6.out.grow GR.out, gtr HG6.out GR.out⟩
    case measure => simp [intOf]; omega
  ·obtain rfl : k = n := by omega
   clear ho hg
   go_wp2_with (at_builtin; refine wp_appZw rfl _ _ rfl W1.heap.size u7 ((List.range k).map (Lk.pos S)) (Lk.pos S k) rfl HO.out rfl rfl (by simp; omega) (by omega) ?_; intro v6 w6 ho6 hg6)
   go_ret
   have hg6' : W1.grownBy w6 none := ((Ch.of (l := u7.ownBlock.toList) HG.out).trans (grown_ch hg6)).nil (fun q hq => HO.out.base q (by simpa using hq))
   refine ⟨v6, rfl, ?_, gtr HB.out.2.1 hg6'⟩
   rw [List.range_succ, List.map_append]
   exact ho6.low HB.out.2.1.size
end Go.Proofs.YtkiockffejlnhaaGreatDoor
