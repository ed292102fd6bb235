/- Contracts and plain facts that the walks share, text by text: LdCopyP, LdLink, LdRes. -/
import Derived.Test.YtkiockffejlnhaaGreatDoorG23
import Derived.Test.YtkiockffejlnhaaGreatDoorRuLate
/- A piece, pieces: the same in new memory. -/
namespace Go.Proofs.YtkiockffejlnhaaGreatDoor
open Go.RowKit
set_option linter.unusedVariables false
set_option maxRecDepth 100000 in
set_option maxHeartbeats 4000000 in
theorem copyPiece_any {N : Nat} {w : World} {P : Lk.PcV} {A : PcA} (hN : N ≤ w.heap.size) (h : InsIn N w A.ia P.n A.ic P.I) (hz : A.ia = none → P.n = 0 ∧ A.ic = 0) (hf : P.n * 72 ≤ reachBytes)
    (hm : NumIn N w A.ma P.m A.mc P.M) (hmz : A.ma = none → P.m = 0 ∧ A.mc = 0) (hmf : P.m * 8 ≤ reachBytes) :
    Calls Tryz.prog 19 #[.agg #[.slice A.ia P.n A.ic, .slice A.ma P.m A.mc, .int .i64 A.out]] w fun e w' => ∃ a1 c1 a2 c2, e = .returned (.agg #[.slice a1 P.n c1, .slice a2 P.m c2, .int .i64 A.out]) ∧
      (InsIn w'.heap.size w' a1 P.n c1 P.I ∧ ∀ b o, a1 = some ⟨b, o, none⟩ → w.heap.size ≤ b ∧ InsB w' b) ∧ (NumIn w'.heap.size w' a2 P.m c2 P.M ∧ ∀ b o, a2 = some ⟨b, o, none⟩ → w.heap.size ≤ b ∧ IntB w' b) ∧ w.grownBy w' none := by
  obtain ⟨W3, hW3⟩ : ∃ W3, W3 = ((w.alloc (.cells #[.slice A.ia P.n A.ic, .slice A.ma P.m A.mc, .int .i64 A.out] 48)).alloc (.cells #[.slice none 0 0, .slice none 0 0, .int .i64 0] 48)).alloc (.cells #[.slice A.ia P.n A.ic, .slice A.ma P.m A.mc, .int .i64 A.out] 48) := ⟨_, rfl⟩
  have hg3 : w.grownBy W3 none := by rw [hW3]; exact ga (ga (World.grownBy_alloc _ _ _) _) _
  have hs3 : W3.heap.size = w.heap.size + 3 := by rw [hW3]; simp
  have HC : Hid (Calls Tryz.prog 36 #[.slice A.ia P.n A.ic] W3 fun e w' => ∃ a' c', e = .returned (.slice a' P.n c') ∧ InsIn w'.heap.size w' a' P.n c' P.I ∧ (a' = none → P.n = 0 ∧ c' = 0) ∧ (∀ b o, a' = some ⟨b, o, none⟩ → W3.heap.size ≤ b ∧ InsB w' b) ∧ W3.grownBy w' none) := copyInsts_any (h.grow hg3) hz hf
  have HD : Hid (∀ W, Ch W3 W [w.heap.size + 2] → Calls Tryz.prog 37 #[.slice A.ma P.m A.mc] W fun e w' => ∃ a' c', e = .returned (.slice a' P.m c') ∧ NumIn w'.heap.size w' a' P.m c' P.M ∧ (a' = none → P.m = 0 ∧ c' = 0) ∧ (∀ b o, a' = some ⟨b, o, none⟩ → W.heap.size ≤ b ∧ IntB w' b) ∧ W.grownBy w' none) := fun W hc => copyNums_any ((hm.grow hg3).ch hc (by simp; omega)) hmz hmf
  have HG3 : Hid (w.grownBy W3 none) := hg3
  have HW3 : Hid (W3 = ((w.alloc (.cells #[.slice A.ia P.n A.ic, .slice A.ma P.m A.mc, .int .i64 A.out] 48)).alloc (.cells #[.slice none 0 0, .slice none 0 0, .int .i64 0] 48)).alloc (.cells #[.slice A.ia P.n A.ic, .slice A.ma P.m A.mc, .int .i64 A.out] 48)) := hW3
  have K : Hid ((∀ j v, (#[.slice A.ia P.n A.ic, .slice A.ma P.m A.mc, .int .i64 A.out] : Array Value)[j]? = some v → W3.cell? ⟨w.heap.size + 2, j, none⟩ = some v) ∧ (∀ q, W3.frozen? ⟨w.heap.size + 2, q, none⟩ = false) ∧ (∀ j v, (#[.slice none 0 0, .slice none 0 0, .int .i64 0] : Array Value)[j]? = some v → W3.cell? ⟨w.heap.size + 1, j, none⟩ = some v) ∧ (∀ q, W3.frozen? ⟨w.heap.size + 1, q, none⟩ = false) ∧ (∀ j v, (#[.slice A.ia P.n A.ic, .slice A.ma P.m A.mc, .int .i64 A.out] : Array Value)[j]? = some v → W3.cell? ⟨w.heap.size, j, none⟩ = some v)) := by
    rw [hW3]
    refine ⟨fun j v hv => ?_, fun q => ?_, fun j v hv => ?_, fun q => ?_, fun j v hv => ?_⟩
    · rw [← hv]; exact cells_new _ _ (by simp) _
    · exact fzs_new _ _ (by simp) _
    · exact (Ch.of (l := []) (World.grownBy_alloc _ _ _)).cell ((cells_new _ _ (by simp) _).trans hv) (by simp)
    · exact frozenK (l := []) (Ch.of (World.grownBy_alloc _ _ _)) (by simp) (by simp) (fzs_new _ _ (by simp) _)
    · exact (Ch.of (l := []) (ga (World.grownBy_alloc _ _ _) _)).cell ((cells_new _ _ rfl _).trans hv) (by simp)
  clear h hz hf hm hmz hmf hg3 hW3
  go_enter Tryz.func19, Tryz.ntmps19
  go_wp2_with (first
    | (go_at_call 36; rw [← HW3.out]; refine HC.out.mono ?_; rintro e w4 ⟨a', c', rfl, hN4, hz4, hb4, hg4⟩; have HN4 : Hid (InsIn w4.heap.size w4 a' P.n c' P.I ∧ (∀ b o, a' = some ⟨b, o, none⟩ → W3.heap.size ≤ b ∧ InsB w4 b)) := ⟨hN4, hb4⟩; have HG4 : Hid (W3.grownBy w4 none) := hg4; have k0 := (Ch.of (l := []) hg4).cell (K.out.1 0 _ rfl) (by simp); have p1 := (Ch.of (l := []) hg4).cell (K.out.2.2.2.2 1 _ rfl) (by simp); have z0 := frozenK (l := []) (Ch.of hg4) (by omega) (by simp) (K.out.2.1 0); have HC4 : Hid (Ch W3 (w4.setCell ⟨w.heap.size + 2, 0, none⟩ (.slice a' P.n c')) [w.heap.size + 2]) := (Ch.of hg4).trans (Ch.one (grown_set _ _ _ _) (by simp)); clear hN4 hz4 hb4 hg4)
    | (go_at_call 37; refine (HD.out _ HC4.out).mono ?_; rintro e w6 ⟨a2, c2, rfl, hN6, hz6, hb6, hg6⟩; have HN6 : Hid (NumIn w6.heap.size w6 a2 P.m c2 P.M ∧ (∀ b o, a2 = some ⟨b, o, none⟩ → (w4.setCell ⟨w.heap.size + 2, 0, none⟩ (.slice a' P.n c')).heap.size ≤ b ∧ IntB w6 b)) := ⟨hN6, hb6⟩; have HG6 : Hid ((w4.setCell ⟨w.heap.size + 2, 0, none⟩ (.slice a' P.n c')).grownBy w6 none) := hg6; have HC6 : Hid (Ch W3 w6 [w.heap.size + 2]) := HC4.out.trans (Ch.of hg6); have c6 := HC6.out; have q0 : w6.cell? ⟨w.heap.size + 2, 0, none⟩ = some (.slice a' P.n c') := (Ch.of (l := []) hg6).cell (World.cell?_setCell_same _ _ _ k0) (by simp); have q1 : w6.cell? ⟨w.heap.size + 2, 1, none⟩ = some (.slice A.ma P.m A.mc) := (Ch.of (l := []) hg6).cell ((World.cell?_setCell_other _ _ _ _ (by simp)).trans ((Ch.of (l := []) HG4.out).cell (K.out.1 1 _ rfl) (by simp))) (by simp); have q2 : w6.cell? ⟨w.heap.size + 2, 2, none⟩ = some (.int .i64 A.out) := (Ch.of (l := []) hg6).cell ((World.cell?_setCell_other _ _ _ _ (by simp)).trans ((Ch.of (l := []) HG4.out).cell (K.out.1 2 _ rfl) (by simp))) (by simp); have z1 : w6.frozen? ⟨w.heap.size + 2, 1, none⟩ = false := frozenK (l := []) (Ch.of hg6) (by have := HG4.out.size; simp; omega) (by simp) (by rw [World.frozen?_setCell]; exact frozenK (l := []) (Ch.of HG4.out) (by omega) (by simp) (K.out.2.1 1)); have r0 := c6.cell (K.out.2.2.1 0 _ rfl) (by simp); have r1 := c6.cell (K.out.2.2.1 1 _ rfl) (by simp); have r2 := c6.cell (K.out.2.2.1 2 _ rfl) (by simp); have y0 := frozenK c6 (by omega) (by simp) (K.out.2.2.2.1 0); have y1 := frozenK c6 (by omega) (by simp) (K.out.2.2.2.1 1); have y2 := frozenK c6 (by omega) (by simp) (K.out.2.2.2.1 2); clear hN6 hz6 hb6 hg6 c6))
  refine bodyPost_ret (by simp [results, Tryz.results19, go_sem, r0, r1, r2]; try rfl) rfl ?_
  have hs4 := HG4.out.size
  have hs6 := HC6.out.size
  generalize hw9 : (((w6.setCell _ _).setCell _ _).setCell _ _).setCell _ _ = w9
  have c9 : Ch w6 w9 [w.heap.size + 1, w.heap.size + 2] := by
    rw [← hw9]
    exact (((Ch.one (grown_set _ _ _ _) (by simp)).trans (Ch.one (grown_set _ _ _ _) (by simp))).trans (Ch.one (grown_set _ _ _ _) (by simp))).trans (Ch.one (grown_set _ _ _ _) (by simp))
  have c49 : Ch w4 w9 [w.heap.size + 1, w.heap.size + 2] := ((Ch.one (grown_set w4 (w.heap.size + 2) 0 (.slice a' P.n c')) (by simp)).trans (Ch.of HG6.out)).trans c9
  have hsz : (w4.setCell ⟨w.heap.size + 2, 0, none⟩ (.slice a' P.n c')).heap.size = w4.heap.size := by simp
  have i1 : ∀ b o, a' = some ⟨b, o, none⟩ → b ∉ [w.heap.size + 1, w.heap.size + 2] := fun b o e => by have := (HN4.out.2 b o e).1; simp; omega
  have i2 : ∀ b o, a2 = some ⟨b, o, none⟩ → b ∉ [w.heap.size + 1, w.heap.size + 2] := fun b o e => by have := (HN6.out.2 b o e).1; simp at this ⊢; omega
  refine ⟨a', c', a2, c2, rfl, ⟨(HN4.out.1.ch2 c49 i1).up c49.size, fun b o e => ⟨by have := (HN4.out.2 b o e).1; omega, (HN4.out.2 b o e).2.ch c49 (i1 b o e)⟩⟩, ⟨(HN6.out.1.ch2 c9 i2).up c9.size, fun b o e => ⟨by have := (HN6.out.2 b o e).1; simp at this; omega, (HN6.out.2 b o e).2.ch c9 (i2 b o e)⟩⟩, ?_⟩
  exact ((Ch.of (grown_trans HG3.out HG4.out)).trans c49).nil (by simp)
structure Pe where
  P : Lk.PcV
  A : PcA
def cellsP (e : Pe) : List Value := [.slice e.A.ia e.P.n e.A.ic, .slice e.A.ma e.P.m e.A.mc, .int .i64 e.A.out]
def OwnP (w : World) (base : Nat) (v : Value) (l : List Pe) : Prop := w.ownsRow base 48 3 v l.length (l.flatMap cellsP)
theorem info_pc : (Tryz.prog.info? 48).map (fun i => (i.zero, i.size, i.bytes)) = some (some (.agg #[.slice none 0 0, .slice none 0 0, .int .i64 0]), 3, 56) := by kernel_rfl
theorem flatP_at : ∀ (l : List Pe) (i k : Nat) (hi : i < l.length), k < 3 → (l.flatMap cellsP)[i * 3 + k]? = (cellsP l[i])[k]?
  | [], i, k, hi, _ => by simp at hi
  | v :: l, 0, k, _, hk => by
    rw [List.flatMap_cons, List.getElem?_append_left (by simp [cellsP]; omega)]
    simp
  | v :: l, i + 1, k, hi, hk => by
    have h4 : (cellsP v).length = 3 := rfl
    rw [List.flatMap_cons, List.getElem?_append_right (by rw [h4]; omega), h4, show (i + 1) * 3 + k - 3 = i * 3 + k by omega]
    exact flatP_at l i k (by simpa using hi) hk
theorem OwnP.grow {w w' : World} {base : Nat} {v : Value} {l : List Pe} (h : OwnP w base v l) (hg : w.grownBy w' none) : OwnP w' base v l := World.ownsRow.kept h hg (Classical.em _)
theorem OwnP.base {w : World} {base : Nat} {v : Value} {l : List Pe} (h : OwnP w base v l) : ∀ k, v.ownBlock = some k → base ≤ k := fun k hk => (World.ownsRow.lt h k hk).1
theorem wp_appPe {ops : Array Oper} {rest : List Oper} {o : Oper} {a : Act} {Q : Exit → Act → World → Prop} {W : World} (hgd : o.guard = none) (s x : Operand)
    (ho : o.op = .call { callee := .builtin .append, args := #[s, x], argTypes := #[23, 23] }) (base : Nat) (v : Value) (l : List Pe) (u : Pe) (hs : a.eval s = v) (hown : OwnP W base v l)
    (hx : a.eval x = .slice (some ⟨W.heap.size, 0, none⟩) 1 1) (hl : l.length ≤ 100000) (hb : base ≤ W.heap.size)
    (h : ∀ v' w', OwnP w' base v' (l ++ [u]) → W.grownBy w' v.ownBlock → wpList Tryz.prog ops Q rest (a.put o.dst v') w') : wpList Tryz.prog ops Q (o :: rest) a (W.alloc (Obj.cells #[.slice u.A.ia u.P.n u.A.ic, .slice u.A.ma u.P.m u.A.mc, .int .i64 u.A.out] 48)) := by
  obtain ⟨i, hi, hz0, hz1, hz2⟩ := info_parts info_pc
  refine wpList_append_own _ hgd s x 23 ho base 48 i _ 3 56 Tryz.underlying23 hi hz0 hz1 hz2 rfl (by decide) v l.length (l.flatMap cellsP) hs (World.ownsRow.alloc hown _) ⟨W.heap.size, 0, none⟩ 1 1 (cellsP u) hx rfl
    (by intro j y hj; rw [addr_add, Nat.zero_add, cells_new _ _ rfl]; rw [← hj]; simp [cellsP]) (by intro y hy; simp [cellsP] at hy; rcases hy with rfl | rfl | rfl <;> rfl) (by unfold maxLen; omega) (by omega) (by simp; omega) ?_
  intro v' w2 ho2 hg2 _
  refine h v' w2 ?_ (grown_trans (grown_noneR _ (World.grownBy_alloc _ _ _)) hg2)
  unfold OwnP
  rw [List.length_append, List.flatMap_append]
  simpa using ho2
theorem OwnP.apart {w : World} {base b : Nat} {v : Value} {l : List Pe} (h : OwnP w base v l) (hb : IntB w b ∨ InsB w b) : v.ownBlock ≠ some b := by
  intro e
  rcases h.2 with ⟨rfl, _⟩ | ⟨g, c, cur, rfl, _, hg, _⟩
  · cases e
  · simp [Value.ownBlock] at e
    subst e
    rcases hb with ⟨cur', h'⟩ | ⟨cur', h'⟩
    · rw [hg] at h'; simp at h'
    · rw [hg] at h'; simp at h'
structure CopP (w wr : World) (V : Nat → Lk.PcV) (k : Nat) (v : Value) (l : List Pe) : Prop where
  own : OwnP wr w.heap.size v l
  len : l.length = k
  ent : ∀ i (hi : i < l.length), l[i].P = V i ∧ (InsIn wr.heap.size wr l[i].A.ia (V i).n l[i].A.ic (V i).I ∧ ∀ b o, l[i].A.ia = some ⟨b, o, none⟩ → InsB wr b) ∧ (NumIn wr.heap.size wr l[i].A.ma (V i).m l[i].A.mc (V i).M ∧ ∀ b o, l[i].A.ma = some ⟨b, o, none⟩ → IntB wr b)
  gr : w.grownBy wr none
theorem CopP.ps {w wr : World} {V : Nat → Lk.PcV} {k : Nat} {v : Value} {l : List Pe} (h : CopP w wr V k v l) : ∃ a c A, v = .slice a k c ∧ PcsIn wr.heap.size wr a k c V A := by
  have hl := h.len
  subst hl
  rcases h.own.2 with ⟨rfl, h0⟩ | ⟨g, c, cur, rfl, hb, hg, hc, hcm, _⟩
  · exact ⟨none, 0, fun _ => ⟨none, 0, none, 0, 0⟩, by rw [h0], by omega, Nat.zero_le _, .inl h0⟩
  · refine ⟨_, c, fun i => (l.getD i ⟨⟨0, fun _ => zeroI, 0, fun _ => 0⟩, ⟨none, 0, none, 0, 0⟩⟩).A, rfl, hc, hcm, .inr ⟨g, 0, rfl, (World.ownsRow.lt h.own g rfl).2, fun i hi => ?_⟩⟩
    have e : ∀ q, q < 3 → wr.cell? ⟨g, i * 3 + q, none⟩ = (cellsP l[i])[q]? := fun q hq => (World.ownsRow.cellAt h.own (i * 3 + q) (by omega)).trans (flatP_at l i q hi hq)
    obtain ⟨e1, ⟨e2, _⟩, e3, _⟩ := h.ent i hi
    have eg : l.getD i ⟨⟨0, fun _ => zeroI, 0, fun _ => 0⟩, ⟨none, 0, none, 0, 0⟩⟩ = l[i] := by simp [List.getD_eq_getElem?_getD, hi]
    rw [Nat.zero_add]
    simp only [eg]
    refine ⟨?_, ?_, ?_, e2, e3⟩
    · rw [← e1]; exact e 0 (by decide)
    · rw [← e1]; exact e 1 (by decide)
    · exact e 2 (by decide)
set_option maxRecDepth 100000 in
set_option maxHeartbeats 4000000 in
theorem copyPieces_any {w : World} {N : Nat} {a : Option Addr} {K c : Nat} {V : Nat → Lk.PcV} {A : Nat → PcA} (h : PcsIn N w a K c V A) (hN : N ≤ w.heap.size) (hn : K ≤ 3000) (iz : ∀ k, k < K → (A k).ia = none → (V k).n = 0 ∧ (A k).ic = 0) (mz : ∀ k, k < K → (A k).ma = none → (V k).m = 0 ∧ (A k).mc = 0) (ib : ∀ k, k < K → (V k).n * 72 ≤ reachBytes) (mb : ∀ k, k < K → (V k).m * 8 ≤ reachBytes) :
    Calls Tryz.prog 6 #[.slice a K c] w fun e w' => ∃ a' c' A', e = .returned (.slice a' K c') ∧ PcsIn w'.heap.size w' a' K c' V A' ∧ w.grownBy w' none := by
  have hle := h.le
  have hmx := h.max
  unfold maxLen at hmx
  have hn' : (K : Int) ≤ 3000 := by omega
  have HT : Hid (∀ W, w.grownBy W none → PcsIn N W a K c V A) := fun W g => h.ch (l := []) (Ch.of g) (by simp)
  have HF : Hid (∀ k, k < K → ((A k).ia = none → (V k).n = 0 ∧ (A k).ic = 0) ∧ ((A k).ma = none → (V k).m = 0 ∧ (A k).mc = 0) ∧ (V k).n * 72 ≤ reachBytes ∧ (V k).m * 8 ≤ reachBytes) := fun k hk => ⟨iz k hk, mz k hk, ib k hk, mb k hk⟩
  clear h iz mz ib mb
  go_enter Tryz.func6, Tryz.ntmps6
  go_wp2_with fail
  go_loopw [3, 4] (fun v ix wr => ∃ (k : Nat) (l : List Pe), ix = .int .i64 k ∧ k ≤ K ∧ CopP w wr V k v l) (fun _ ix _ => K - (intOf ix).toNat)
  case atStart => exact ⟨0, [], rfl, Nat.zero_le _, World.ownsRow_nil _ _ _ _, rfl, (fun i hi => by simp at hi), World.grownBy.refl _ _⟩
  case round =>
    obtain ⟨k, l, rfl, hk, hc⟩ := hrel
    have HC : Hid (CopP w wr V k _ l) := hc
    by_cases hkn : k < K
    · have hkn' : (k : Int) < K := by omega
      obtain ⟨b, off, rfl, hb, hty⟩ := (HT.out _ hc.gr).at hkn
      have hf := HF.out k hkn
      have hsz := hc.gr.size
      have hcp := copyPiece_any (Nat.le_trans hN hsz) hty.ins hf.1 hf.2.2.1 hty.mks hf.2.1 hf.2.2.2
      obtain ⟨P, hP⟩ : ∃ P, P = V k := ⟨_, rfl⟩
      obtain ⟨B, hB⟩ : ∃ B, B = A k := ⟨_, rfl⟩
      rw [← hP, ← hB] at hcp
      have HCp : Hid (Calls Tryz.prog 19 #[.agg #[.slice B.ia P.n B.ic, .slice B.ma P.m B.mc, .int .i64 B.out]] wr fun e w' => ∃ a1 c1 a2 c2, e = .returned (.agg #[.slice a1 P.n c1, .slice a2 P.m c2, .int .i64 B.out]) ∧
        (InsIn w'.heap.size w' a1 P.n c1 P.I ∧ ∀ b o, a1 = some ⟨b, o, none⟩ → wr.heap.size ≤ b ∧ InsB w' b) ∧ (NumIn w'.heap.size w' a2 P.m c2 P.M ∧ ∀ b o, a2 = some ⟨b, o, none⟩ → wr.heap.size ≤ b ∧ IntB w' b) ∧ wr.grownBy w' none) := hcp
      have c0 := hty.c0
      have c1 := hty.c1
      have c2 := hty.c2
      rw [← hP, ← hB] at c0 c1
      rw [← hB] at c2
      have hlk := hc.len
      have HX : Hid (P = V k) := hP
      clear hc hcp hty hf hP hB
      go_wp2_with (first
        | (go_at_call 19; refine HCp.out.mono ?_; rintro e w4 ⟨a1, k1, a2, k2, rfl, hN4, hM4, hg4⟩; have HN4 : Hid ((InsIn w4.heap.size w4 a1 P.n k1 P.I ∧ ∀ b o, a1 = some ⟨b, o, none⟩ → wr.heap.size ≤ b ∧ InsB w4 b) ∧ (NumIn w4.heap.size w4 a2 P.m k2 P.M ∧ ∀ b o, a2 = some ⟨b, o, none⟩ → wr.heap.size ≤ b ∧ IntB w4 b)) := ⟨hN4, hM4⟩; have HG4 : Hid (wr.grownBy w4 none) := hg4; have hsz4 := hg4.size; clear hN4 hM4 hg4)
        | (at_builtin; refine wp_appPe rfl _ _ rfl w.heap.size u3 l ⟨P, ⟨a1, k1, a2, k2, B.out⟩⟩ rfl (HC.out.own.grow HG4.out) rfl (by omega) (by omega) ?_; intro v6 w6 ho6 hg6))
      go_roundw
      case rel =>
        have o4 := HC.out.own.grow HG4.out
        have hch : Ch w4 w6 u3.ownBlock.toList := grown_ch hg6
        have hap : ∀ b, (IntB w4 b ∨ InsB w4 b) → b ∉ u3.ownBlock.toList := fun b hb hm => o4.apart hb (by simpa using hm)
        refine ⟨k + 1, l ++ [⟨P, ⟨a1, k1, a2, k2, B.out⟩⟩], by go_num, by omega, ho6, by simp [hlk], fun i hi => ?_, ?_⟩
        · by_cases hil : i < l.length
          · rw [List.getElem_append_left hil]
            obtain ⟨e1, ⟨e2, e3⟩, e4, e5⟩ := HC.out.ent i hil
            have e3' : ∀ b o, l[i].A.ia = some ⟨b, o, none⟩ → InsB w4 b := fun b o e => (e3 b o e).ch (l := []) (Ch.of HG4.out) (by simp)
            have e5' : ∀ b o, l[i].A.ma = some ⟨b, o, none⟩ → IntB w4 b := fun b o e => (e5 b o e).ch (l := []) (Ch.of HG4.out) (by simp)
            exact ⟨e1, ⟨((e2.grow HG4.out).ch2 hch (fun b o e => hap b (.inr (e3' b o e)))).up (by have := hch.size; omega), fun b o e => (e3' b o e).ch hch (hap b (.inr (e3' b o e)))⟩, ((e4.grow HG4.out).ch2 hch (fun b o e => hap b (.inl (e5' b o e)))).up (by have := hch.size; omega), fun b o e => (e5' b o e).ch hch (hap b (.inl (e5' b o e)))⟩
          · have hik : i = l.length := by simp at hi; omega
            subst hik
            have hT : V l.length = P := by rw [hlk]; exact HX.out.symm
            rw [List.getElem_append_right (Nat.le_refl _)]
            simp only [Nat.sub_self, List.getElem_cons_zero]
            rw [hT]
            obtain ⟨⟨n1, n2⟩, n3, n4⟩ := HN4.out
            exact ⟨rfl, ⟨(n1.ch2 hch (fun b o e => hap b (.inr (n2 b o e).2))).up hch.size, fun b o e => (n2 b o e).2.ch hch (hap b (.inr (n2 b o e).2))⟩, (n3.ch2 hch (fun b o e => hap b (.inl (n4 b o e).2))).up hch.size, fun b o e => (n4 b o e).2.ch hch (hap b (.inl (n4 b o e).2))⟩
        · have := (Ch.of (l := u3.ownBlock.toList) (grown_trans HC.out.gr HG4.out)).trans hch
          exact this.nil (fun q hq => HC.out.own.base q (by simpa using hq))
      case measure => simp [intOf]; omega
    · obtain rfl : k = K := by omega
      obtain ⟨a1, c1, A1, rfl, hT1⟩ := hc.ps
      clear hc
      go_wp2
      go_ret
      exact ⟨a1, c1, A1, rfl, hT1, HC.out.gr⟩
end Go.Proofs.YtkiockffejlnhaaGreatDoor

/- link.Link, whatever is asked. -/
namespace Go.Proofs.YtkiockffejlnhaaGreatDoor
open Go.RowKit
set_option linter.unusedVariables false
def LkYes (t : Int) (K : Nat) (V : Nat → Lk.PcV) (dn : Nat) (dg : Nat → Int) (en : Int) (w : World) (e : Ending) (w' : World) : Prop :=
  (t = 1 ∨ t = 2) ∧ 0 < K ∧ K ≤ 33 ∧ dn ≤ 1048576 ∧ ∃ (n : Nat) (Ls : Nat → Nat → Bool), en = n ∧ n < K ∧ Lk.Lkd t K V Ls ∧ ∃ cv dv TF, e = .returned (.tuple #[.agg #[.int .i64 t, cv, dv, .int .i64 (Lk.pos (ends V (Lk.SS t V Ls)) n), .slice (some ⟨TF, 0, none⟩) K K], .int .i64 0]) ∧
    OwnL w' w.heap.size cv (Lk.codeA t V (Lk.SS t V Ls) K) ∧ OwnB w' w.heap.size dv dn dg ∧ OwnN w' w.heap.size (.slice (some ⟨TF, 0, none⟩) K K) K (Lk.pos (ends V (Lk.SS t V Ls)))
def LkNo (e : Ending) : Prop := e = .returned (.tuple #[.agg #[.int .i64 0, .slice none 0 0, .slice none 0 0, .int .i64 0, .slice none 0 0], .int .i64 60]) ∨ e = .returned (.tuple #[.agg #[.int .i64 0, .slice none 0 0, .slice none 0 0, .int .i64 0, .slice none 0 0], .int .i64 61])
def LkOk (t en : Int) (K : Nat) (V : Nat → Lk.PcV) (dn : Nat) : Prop :=
  (t = 1 ∨ t = 2) ∧ 0 < K ∧ K ≤ 33 ∧ 0 ≤ en ∧ en < K ∧ Lk.piecesB t K V = true ∧ dn ≤ 1048576 ∧ ∀ Ls : Nat → Nat → Bool, (∀ k, k < K → ((V k).sh t).Least (Ls k)) → Lk.pos (ends V (Lk.SS t V Ls)) K ≤ 1048576
theorem pos_least {t : Int} {K : Nat} {V : Nat → Lk.PcV} {Ls Ls' : Nat → Nat → Bool} (hL : ∀ k, k < K → ((V k).sh t).Least (Ls k)) (hL' : ∀ k, k < K → ((V k).sh t).Least (Ls' k)) : Lk.pos (ends V (Lk.SS t V Ls)) K = Lk.pos (ends V (Lk.SS t V Ls')) K :=
  Lk.pos_congr fun k hk => Lk.pos_congr fun i hi => (hL k hk).same (hL' k hk) hi
theorem yes_of {t : Int} (ht : t = 1 ∨ t = 2) {K : Nat} {V : Nat → Lk.PcV} {Ls : Nat → Nat → Bool} {dn : Nat} {dg : Nat → Int} {n : Nat} {w : World} {e : Ending} {w' : World} (h0 : 0 < K) (hK : K ≤ 33) (hn : n < K) (hB : Lk.piecesB t K V = true) (hr : ∀ k, k < K → ∀ i, i < (V k).n → InRng ((V k).I i)) (hL : ∀ k, k < K → ((V k).sh t).Least (Ls k)) (h : LkRes t K V Ls dn dg n w e w') : (¬ LkOk t n K V dn ∧ LkNo e) ∨ (LkOk t n K V dn ∧ LkYes t K V dn dg n w e w') := by
  rcases h with ⟨h1, he⟩ | ⟨h1, h2, cv, dv, TF, he, h3, h4, h5⟩
  · refine .inl ⟨fun hY => ?_, .inr he⟩
    have := hY.2.2.2.2.2.2.2 Ls hL
    have := hY.2.2.2.2.2.2.1
    omega
  · refine .inr ⟨⟨ht, h0, hK, by omega, by omega, hB, h1, fun Ls' hL' => by rw [pos_least hL' hL]; exact h2⟩, ht, h0, hK, h1, n, Ls, rfl, hn, ⟨fun k hk => Lk.PcV.ok_of (Lk.piecesB_iff.1 hB k hk).1 (Lk.piecesB_iff.1 hB k hk).2, hL, hr, h2⟩, cv, dv, TF, he, h3, h4, h5⟩
theorem link_all {w : World} {t en : Int} {a da : Option Addr} {K c dn dc : Nat} {V : Nat → Lk.PcV} {A : Nat → PcA} {dg : Nat → Int} (h : PcsIn w.heap.size w a K c V A) (hTab : TabAt w) (hn : ∀ k, k < K → ((V k).n : Int) ≤ 8796093022208)
    (hd0 : da = none → dn = 0 ∧ dc = 0) (hd : Bs w da dn dg) (hdl : ∀ b off, 0 < dn → da = some ⟨b, off, none⟩ → b < w.heap.size) (hdn : (dn : Int) ≤ 9223372036854775807) :
    Calls Tryz.prog 8 #[.int .i64 t, .slice a K c, .slice da dn dc, .int .i64 en] w fun e w' => w.grownBy w' none ∧ ((¬ LkOk t en K V dn ∧ LkNo e) ∨ (LkOk t en K V dn ∧ LkYes t K V dn dg en w e w')) := by
  have hrng : ∀ k, k < K → ∀ i, i < (V k).n → InRng ((V k).I i) := fun k hk i hi => by
    obtain ⟨b, off, _, _, hp⟩ := h.at hk
    exact hp.ins.rng i hi
  have hps : ∀ W, w.grownBy W none → PcsIn w.heap.size W a K c V A := fun W g => h.ch (l := []) (Ch.of g) (by simp)
  by_cases h1 : t = 1
  · subst h1
    by_cases hK : K = 0 ∨ 33 < K
    · exact (link_no fun W _ => (take_r0 W hK).mono fun e w' ⟨he, hw⟩ => ⟨he, hw ▸ World.grownBy.refl _ _⟩).mono fun e w' ⟨he, hg⟩ => ⟨hg, .inl ⟨fun hY => by have h1 := hY.2.1; have h2 := hY.2.2.1; omega, .inl he⟩⟩
    · by_cases he : en < 0 ∨ (K : Int) ≤ en
      · exact (link_er h hTab (by omega) (by omega) hn he).mono fun e w' ⟨he', hg⟩ => ⟨hg, .inl ⟨fun hY => by have h1 := hY.2.2.2.1; have h2 := hY.2.2.2.2.1; omega, .inl he'⟩⟩
      · obtain ⟨n, rfl⟩ : ∃ n : Nat, en = n := ⟨en.toNat, by omega⟩
        cases hB : Lk.piecesB 1 K V
        · exact (link_no fun W g => (take_r (hps W g) (hTab.kept g (by simp)) hTab.1 g.size (by omega) (by omega) hn).mono fun e w' ⟨g2, h2⟩ => by
            rcases h2 with ⟨h2, _⟩ | ⟨_, h2⟩
            · rw [hB] at h2; cases h2
            · exact ⟨h2, g2⟩).mono fun e w' ⟨he, hg⟩ => ⟨hg, .inl ⟨fun hY => (by have := hY.2.2.2.2.2.1; rw [hB] at this; cases this), .inl he⟩⟩
        · exact (link_r h hTab (by omega) (by omega) hn hB (by omega) hd0 hd hdl hdn).mono fun e w' ⟨hg, Ls, hL, hr⟩ => ⟨hg, yes_of (.inl rfl) (by omega) (by omega) (by omega) hB hrng hL hr⟩
  · by_cases h2 : t = 2
    · subst h2
      by_cases hK : K = 0 ∨ 33 < K
      · exact (link_no fun W _ => (take_c0 W hK).mono fun e w' ⟨he, hw⟩ => ⟨he, hw ▸ World.grownBy.refl _ _⟩).mono fun e w' ⟨he, hg⟩ => ⟨hg, .inl ⟨fun hY => by have h1 := hY.2.1; have h2 := hY.2.2.1; omega, .inl he⟩⟩
      · by_cases he : en < 0 ∨ (K : Int) ≤ en
        · exact (link_ec h hTab (by omega) (by omega) hn he).mono fun e w' ⟨he', hg⟩ => ⟨hg, .inl ⟨fun hY => by have h1 := hY.2.2.2.1; have h2 := hY.2.2.2.2.1; omega, .inl he'⟩⟩
        · obtain ⟨n, rfl⟩ : ∃ n : Nat, en = n := ⟨en.toNat, by omega⟩
          cases hB : Lk.piecesB 2 K V
          · exact (link_no fun W g => (take_c (hps W g) (hTab.kept g (by simp)) hTab.1 g.size (by omega) (by omega) hn).mono fun e w' ⟨g2, h2⟩ => by
              rcases h2 with ⟨h2, _⟩ | ⟨_, h2⟩
              · rw [hB] at h2; cases h2
              · exact ⟨h2, g2⟩).mono fun e w' ⟨he, hg⟩ => ⟨hg, .inl ⟨fun hY => (by have := hY.2.2.2.2.2.1; rw [hB] at this; cases this), .inl he⟩⟩
          · exact (link_c h hTab (by omega) (by omega) hn hB (by omega) hd0 hd hdl hdn).mono fun e w' ⟨hg, Ls, hL, hr⟩ => ⟨hg, yes_of (.inr rfl) (by omega) (by omega) (by omega) hB hrng hL hr⟩
    · exact (link_no fun W _ => (take_no W (by simpa using h1) (by simpa using h2)).mono fun e w' ⟨he, hw⟩ => ⟨he, hw ▸ World.grownBy.refl _ _⟩).mono fun e w' ⟨he, hg⟩ => ⟨hg, .inl ⟨fun hY => by rcases hY.1 with h | h <;> contradiction, .inl he⟩⟩
namespace Lk
theorem codeP_pre (t : Int) (V : Nat → PcV) (S : Nat → Nat → Int) (k : Nat) {i n : Nat} (h : i ≤ n) : ∃ s, codeP t V S k n = codeP t V S k i ++ s := by
  induction n with
  | zero => obtain rfl : i = 0 := by omega
            exact ⟨[], by simp⟩
  | succ n ih =>
    by_cases hi : i = n + 1
    · subst hi; exact ⟨[], by simp⟩
    · obtain ⟨s, hs⟩ := ih (by omega)
      exact ⟨s ++ Ru.encT t (fin t V S k n), by rw [codeP, hs, List.append_assoc]⟩
theorem codeA_pre (t : Int) (V : Nat → PcV) (S : Nat → Nat → Int) {i n : Nat} (h : i ≤ n) : ∃ s, codeA t V S n = codeA t V S i ++ s := by
  induction n with
  | zero => obtain rfl : i = 0 := by omega
            exact ⟨[], by simp⟩
  | succ n ih =>
    by_cases hi : i = n + 1
    · subst hi; exact ⟨[], by simp⟩
    · obtain ⟨s, hs⟩ := ih (by omega)
      exact ⟨s ++ codeP t V S n (V n).n, by rw [codeA, hs, List.append_assoc]⟩
theorem code_split {t : Int} {K : Nat} {V : Nat → PcV} {S : Nat → Nat → Int} {k i : Nat} (hk : k < K) (hi : i < (V k).n) : ∃ s, codeA t V S K = (codeA t V S k ++ codeP t V S k i) ++ (Ru.encT t (fin t V S k i) ++ s) := by
  obtain ⟨s1, h1⟩ := codeA_pre t V S (i := k + 1) (n := K) (by omega)
  obtain ⟨s2, h2⟩ := codeP_pre t V S k (i := i + 1) (n := (V k).n) (by omega)
  refine ⟨s2 ++ s1, ?_⟩
  rw [h1, codeA, h2, codeP]
  simp [List.append_assoc]
end Lk
end Go.Proofs.YtkiockffejlnhaaGreatDoor

/- What a region that asks link.Link tells, operation by operation. -/
namespace Go.Proofs.YtkiockffejlnhaaGreatDoor
open Go.RowKit
set_option linter.unusedVariables false
theorem PcAt.up {N M : Nat} {w : World} {b o : Nat} {P : Lk.PcV} {A : PcA} (h : PcAt N w b o P A) (hM : N ≤ M) : PcAt M w b o P A := ⟨h.c0, h.c1, h.c2, h.ins.up hM, h.mks.up hM⟩
theorem PcsIn.grow {N : Nat} {w w' : World} {a : Option Addr} {K c : Nat} {V : Nat → Lk.PcV} {A : Nat → PcA} (h : PcsIn N w a K c V A) (hg : w.grownBy w' none) : PcsIn N w' a K c V A := h.ch (l := []) (Ch.of hg) (by simp)
structure ImgY (v : AkV) (n : Nat) (Ls : Nat → Nat → Bool) (cv dv : Value) (TF base : Nat) (w : World) : Prop where
  en : v.en = n
  nK : n < v.K
  ht : v.t = 1 ∨ v.t = 2
  K0 : 0 < v.K
  K33 : v.K ≤ 33
  lkd : Lk.Lkd v.t v.K v.V Ls
  own : OwnL w base cv (Lk.codeA v.t v.V (Lk.SS v.t v.V Ls) v.K)
  fn : OwnN w base (.slice (some ⟨TF, 0, none⟩) v.K v.K) v.K (Lk.pos (ends v.V (Lk.SS v.t v.V Ls)))
  ds : ∃ x y z, dv = .slice x y z
theorem ImgY.cs {v : AkV} {n : Nat} {Ls : Nat → Nat → Bool} {cv dv : Value} {TF base : Nat} {w : World} (h : ImgY v n Ls cv dv TF base w) : ∃ x y z, cv = .slice x y z := by
  rcases h.own.2 with ⟨e, _⟩ | ⟨g, c, cur, e, _⟩
  · exact ⟨_, _, _, e⟩
  · exact ⟨_, _, _, e⟩
theorem ImgY.grow {v : AkV} {n : Nat} {Ls : Nat → Nat → Bool} {cv dv : Value} {TF base : Nat} {w w' : World} (h : ImgY v n Ls cv dv TF base w) (g : w.grownBy w' none) : ImgY v n Ls cv dv TF base w' :=
  ⟨h.en, h.nK, h.ht, h.K0, h.K33, h.lkd, h.own.grow g, h.fn.grow g, h.ds⟩
def okD (v : AkV) : Prop := LkOk v.t v.en v.K v.V v.dn
def ResD (v : AkV) (base : Nat) (x : Value) (w : World) : Prop :=
  (¬ okD v ∧ ∃ E : Int, (E = 60 ∨ E = 61) ∧ x = .tuple #[.agg #[.int .i64 0, .slice none 0 0, .slice none 0 0, .int .i64 0, .slice none 0 0], .int .i64 E]) ∨ (okD v ∧ ∃ n Ls cv dv TF, x = .tuple #[.agg #[.int .i64 v.t, cv, dv, .int .i64 (Lk.pos (ends v.V (Lk.SS v.t v.V Ls)) n), .slice (some ⟨TF, 0, none⟩) v.K v.K], .int .i64 0] ∧ ImgY v n Ls cv dv TF base w)
def ImD (v : AkV) (base : Nat) (x : Value) (w : World) : Prop :=
  (¬ okD v ∧ x = .agg #[.int .i64 0, .slice none 0 0, .slice none 0 0, .int .i64 0, .slice none 0 0]) ∨ (okD v ∧ ∃ n Ls cv dv TF, x = .agg #[.int .i64 v.t, cv, dv, .int .i64 (Lk.pos (ends v.V (Lk.SS v.t v.V Ls)) n), .slice (some ⟨TF, 0, none⟩) v.K v.K] ∧ ImgY v n Ls cv dv TF base w)
def ErD (v : AkV) (x : Value) : Prop := (¬ okD v ∧ ∃ E : Int, (E = 60 ∨ E = 61) ∧ x = .int .i64 E) ∨ (okD v ∧ x = .int .i64 0)
def psiD (v : AkV) (B base : Nat) : Nat → Value → World → Prop
  | 0, x, _ => x = .pointer (some ⟨B, 0, none⟩)
  | 1, x, _ => x = .int .i64 v.t
  | 2, x, _ => x = .pointer (some ⟨B, 1, none⟩)
  | 3, x, _ => x = .slice v.a v.K v.c
  | 4, x, w => ∃ a' c' A' N, x = .slice a' v.K c' ∧ N ≤ w.heap.size ∧ PcsIn N w a' v.K c' v.V A'
  | 5, x, _ => x = .pointer (some ⟨B, 2, none⟩)
  | 6, x, _ => x = .slice v.da v.dn v.dc
  | 7, x, w => ∃ a' c', x = .slice a' v.dn c' ∧ BsIn w a' v.dn c' v.dg
  | 8, x, _ => x = .pointer (some ⟨B, 3, none⟩)
  | 9, x, _ => x = .int .i64 v.en
  | 10, x, w => ResD v base x w
  | 11, x, w => ResD v base x w
  | 12, x, w => ImD v base x w
  | 13, x, _ => ErD v x
  | _, x, w => ∃ N, x = .pointer (some ⟨N, 0, none⟩) ∧ w.rowIs N 32 5 (row5 (.int .i64 0) (.slice none 0 0) (.slice none 0 0) (.int .i64 0) (.slice none 0 0)) ∧ base ≤ N
theorem ResD.grow {v : AkV} {base : Nat} {x : Value} {w w' : World} (h : ResD v base x w) (g : w.grownBy w' none) : ResD v base x w' := by
  rcases h with h | ⟨h, n, Ls, cv, dv, TF, e, hi⟩
  · exact .inl h
  · exact .inr ⟨h, n, Ls, cv, dv, TF, e, hi.grow g⟩
theorem ImD.grow {v : AkV} {base : Nat} {x : Value} {w w' : World} (h : ImD v base x w) (g : w.grownBy w' none) : ImD v base x w' := by
  rcases h with h | ⟨h, n, Ls, cv, dv, TF, e, hi⟩
  · exact .inl h
  · exact .inr ⟨h, n, Ls, cv, dv, TF, e, hi.grow g⟩
theorem psiD_stable {v : AkV} {B base i : Nat} {x : Value} {w w' : World} (h : psiD v B base i x w) (g : w.grownBy w' none) : psiD v B base i x w' := by
  unfold psiD at h ⊢
  split at h
  all_goals first
    | exact h
    | (obtain ⟨a', c', A', N, e, hN, hp⟩ := h; exact ⟨a', c', A', N, e, Nat.le_trans hN g.size, hp.grow g⟩)
    | (obtain ⟨a', c', e, hb⟩ := h; exact ⟨a', c', e, hb.kept g⟩)
    | exact ResD.grow h g
    | exact ImD.grow h g
    | (obtain ⟨N, e, hr, hb⟩ := h; exact ⟨N, e, rowIs_grown hr g, hb⟩)
theorem OwnB.bsIn' {w : World} {base n : Nat} {v : Value} {g : Nat → Int} (h : OwnB w base v n g) (hf : Mm.Fit g) : ∃ ao cap, v = .slice ao n cap ∧ BsIn w ao n cap g := by
  obtain ⟨ao, cap, rfl, h1, h2, h3, h4⟩ := h.shape
  refine ⟨ao, cap, rfl, ⟨h1, h2, h3, hf, h4, fun b off h0 e => ?_⟩⟩
  subst e
  rcases h.2 with ⟨e1, _⟩ | ⟨g', c', cur, e1, hb', hg', _⟩
  · cases e1
  · injection e1 with e1 e2 e3
    injection e1 with e1
    injection e1 with e1
    subst e1
    exact (Array.getElem?_eq_some_iff.1 hg').1
theorem callPs {v : AkV} {B base : Nat} {W : World} {N : Nat} (h : PcsIn N W v.a v.K v.c v.V v.A) (hN : N ≤ W.heap.size) (hn : v.K ≤ 3000) (iz : ∀ k, k < v.K → (v.A k).ia = none → (v.V k).n = 0 ∧ (v.A k).ic = 0) (mz : ∀ k, k < v.K → (v.A k).ma = none → (v.V k).m = 0 ∧ (v.A k).mc = 0) (ib : ∀ k, k < v.K → (v.V k).n * 72 ≤ reachBytes) (mb : ∀ k, k < v.K → (v.V k).m * 8 ≤ reachBytes) :
    Calls Tryz.prog 6 #[.slice v.a v.K v.c] W fun e w' => ∃ x, e = .returned x ∧ W.grownBy w' none ∧ psiD v B base 4 x w' :=
  (copyPieces_any h hN hn iz mz ib mb).mono fun e w' ⟨a', c', A', he, hp, hg⟩ => ⟨_, he, hg, a', c', A', _, rfl, Nat.le_refl _, hp⟩
theorem callBs {v : AkV} {B base : Nat} {W : World} (h : BsIn W v.da v.dn v.dc v.dg) (hn : (v.dn : Int) ≤ 140737488351232) :
    Calls Tryz.prog 7 #[.slice v.da v.dn v.dc] W fun e w' => ∃ x, e = .returned x ∧ W.grownBy w' none ∧ psiD v B base 7 x w' :=
  (copyB v.dn v.dc v.da v.dg W hn h.nil h.bs).mono fun e w' ⟨x, he, ho, hg⟩ => by
    obtain ⟨ao, cap, rfl, hb⟩ := ho.bsIn' h.fit
    exact ⟨_, he, hg, ao, cap, rfl, hb⟩
theorem callLk {v : AkV} {B base : Nat} {W : World} {a' da' : Option Addr} {c' dc' N : Nat} {A' : Nat → PcA} (hp : PcsIn N W a' v.K c' v.V A') (hN : N ≤ W.heap.size) (hTab : TabAt W) (hb : base ≤ W.heap.size) (hn : ∀ k, k < v.K → ((v.V k).n : Int) ≤ 8796093022208) (hd : BsIn W da' v.dn dc' v.dg) :
    Calls Tryz.prog 8 #[.int .i64 v.t, .slice a' v.K c', .slice da' v.dn dc', .int .i64 v.en] W fun e w' => ∃ x, e = .returned x ∧ W.grownBy w' none ∧ psiD v B base 10 x w' :=
  (link_all (t := v.t) (en := v.en) (hp.up hN) hTab hn hd.nil hd.bs hd.lt (by have h1 := hd.le; have h2 := hd.max; unfold maxLen at h2; omega)).mono fun e w' ⟨hg, h⟩ => by
    rcases h with ⟨h1, h2⟩ | ⟨h1, ht, h0, h33, _, n, Ls, hen, hnK, hl, cv, dv, TF, he, o1, o2, o3⟩
    · rcases h2 with he | he
      · exact ⟨_, he, hg, .inl ⟨h1, 60, .inl rfl, rfl⟩⟩
      · exact ⟨_, he, hg, .inl ⟨h1, 61, .inr rfl, rfl⟩⟩
    · exact ⟨_, he, hg, .inr ⟨h1, n, Ls, cv, dv, TF, rfl, hen, hnK, ht, h0, h33, hl, o1.low hb, o3.low hb, (by obtain ⟨ao, cap, e, _⟩ := o2.shape; exact ⟨_, _, _, e⟩)⟩⟩
theorem img_put {v : AkV} {n : Nat} {Ls : Nat → Nat → Bool} {cv dv : Value} {TF base N : Nat} {w0 W : World} {f : Nat → Value} (hg : w0.grownBy W none) (hb : base ≤ N) (hw : w0.heap.size ≤ N) (hr : W.rowIs N 32 5 f) (h : ImgY v n Ls cv dv TF base W) (x0 x1 x2 x3 x4 : Value) :
    (put5 W N x0 x1 x2 x3 x4).rowIs N 32 5 (row5 x0 x1 x2 x3 x4) ∧ ImgY v n Ls cv dv TF base (put5 W N x0 x1 x2 x3 x4) ∧ w0.grownBy (put5 W N x0 x1 x2 x3 x4) none := by
  have gp := grown_put5 W N x0 x1 x2 x3 x4
  have hr' : W.rowIs N 32 5 f := hr
  obtain ⟨cur, hN, _⟩ := hr
  refine ⟨row5_put hr' _ _ _ _ _, ⟨h.en, h.nK, h.ht, h.K0, h.K33, h.lkd, h.own.kept gp (.inr (apart_ty h.own hN (by decide))), ?_, h.ds⟩, grown_two hg gp hw⟩
  refine World.ownsRow.kept h.fn gp (.inr ?_)
  intro hb'
  rcases h.fn.2 with ⟨e1, _⟩ | ⟨g', c, cur', e1, _, e2, _⟩
  · cases e1
  · rw [e1] at hb'
    simp [Value.ownBlock] at hb'
    subst hb'
    rw [hN] at e2
    simp at e2
end Go.Proofs.YtkiockffejlnhaaGreatDoor
