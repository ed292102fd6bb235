/- Contracts and plain facts that the walks share, text by text: RuIt, RuX, RuO, RuInv, RuRow, RuNr, RuNs, RuNt, RuNu. -/
import Derived.Test.YtdklaeppcjopoaaGreatG2
import Derived.Test.YtdklaeppcjopoaaGreatG10
/- The plain machine, step by step: what has ended stays; more fuel goes on; what was told is told further. -/
namespace Go.Proofs.YtdklaeppcjopoaaGreat
open Go.RowKit
set_option linter.unusedVariables false

namespace Ru
/-- what holds of all that an instruction but InstEmit does -/
theorem exec_ind {P : St → Prop} (hput : ∀ t a x, P t → P (t.put a x)) (hstop : ∀ t e n, e = 1 ∨ e = 2 ∨ e = 4 ∨ e = 5 → P t → P (t.stop e n)) (hpl : ∀ t p, P t → P { t with pl := p }) (hm : ∀ t m, P t → P { t with m := m }) (hhp : ∀ t p, P t → P { t with hp := p }) (hf : ∀ t k x y, P t → P (t.flg k x y)) (I : Im) (v : InV) (s : St) (h27 : v.op ≠ 27) (h0 : P s) : P (exec I v s) := by
  have h5 : ∀ t, P t → P (t.stop 5 0) := fun t h => hstop t 5 0 (by decide) h
  have h4 : ∀ t, P t → P (t.stop 4 0) := fun t h => hstop t 4 0 (by decide) h
  have hset : ∀ t a x e, P t → P (t.set a x e) := fun t a x e h => by unfold St.set; split; exact hput _ _ _ h; exact h5 _ h
  have hbin : ∀ t T a sub k x y, P t → P (t.bin T a sub k x y) := fun t T a sub k x y h => by
    unfold St.bin; split
    · exact hset _ _ _ _ (hset _ _ _ _ h)
    · exact hset _ _ _ _ h
  have hask : ∀ t sub, P t → P (t.ask sub) := fun t sub h => by unfold St.ask; split; exact h; exact h5 _ h
  have hlay : ∀ t S a k x, P t → P (t.lay S a k x) := fun t S a k x h => by unfold St.lay; split; exact hm _ _ h; exact h5 _ h
  have hgoto : ∀ t p, P t → P (t.goto p) := fun t p h => hpl t _ h
  unfold exec
  by_cases c0 : v.op = 1
  · rw [if_pos c0]; exact hput _ _ _ h0
  rw [if_neg c0]
  by_cases c1 : v.op = 2
  · rw [if_pos c1]; exact hput _ _ _ h0
  rw [if_neg c1]
  by_cases c2 : v.op = 3
  · rw [if_pos c2]; exact hput _ _ _ h0
  rw [if_neg c2]
  by_cases c3 : v.op = 4
  · rw [if_pos c3]
    split <;> exact hbin _ _ _ _ _ _ _ h0
  rw [if_neg c3]
  by_cases c4 : v.op = 5
  · rw [if_pos c4]; exact hbin _ _ _ _ _ _ _ h0
  rw [if_neg c4]
  by_cases c5 : v.op = 6
  · rw [if_pos c5]
    split
    · exact hbin _ _ _ _ _ _ _ h0
    · exact h5 _ h0
  rw [if_neg c5]
  by_cases c6 : v.op = 7
  · rw [if_pos c6]; exact hset _ _ _ _ h0
  rw [if_neg c6]
  by_cases c7 : v.op = 8
  · rw [if_pos c7]; exact hset _ _ _ _ h0
  rw [if_neg c7]
  by_cases c8 : v.op = 9 ∨ v.op = 10
  · rw [if_pos c8]; exact hput _ _ _ h0
  rw [if_neg c8]
  by_cases c9 : v.op = 11 ∨ v.op = 12
  · rw [if_pos c9]; exact hset _ _ _ _ h0
  rw [if_neg c9]
  by_cases c10 : v.op = 13 ∨ v.op = 14
  · rw [if_pos c10]; exact hlay _ _ _ _ _ h0
  rw [if_neg c10]
  by_cases c11 : v.op = 15
  · rw [if_pos c11]
    split
    · split
      · exact hput _ _ _ h0
      · exact hask _ _ h0
    · exact hput _ _ _ h0
  rw [if_neg c11]
  by_cases c12 : v.op = 16
  · rw [if_pos c12]; exact hf _ _ _ _ h0
  rw [if_neg c12]
  by_cases c13 : v.op = 17
  · rw [if_pos c13]; exact hf _ _ _ _ h0
  rw [if_neg c13]
  by_cases c14 : v.op = 18
  · rw [if_pos c14]
    split
    · exact hput _ _ _ h0
    · exact h5 _ h0
  rw [if_neg c14]
  by_cases c15 : v.op = 19
  · rw [if_pos c15]; exact hgoto _ _ h0
  rw [if_neg c15]
  by_cases c16 : v.op = 20
  · rw [if_pos c16]
    split
    · exact h0
    · exact hgoto _ _ h0
  rw [if_neg c16]
  by_cases c17 : v.op = 21
  · rw [if_pos c17]
    split
    · exact hgoto _ _ h0
    · exact h0
  rw [if_neg c17]
  by_cases c18 : v.op = 22
  · rw [if_pos c18]
    split
    · exact hgoto _ _ h0
    · exact hask _ _ h0
  rw [if_neg c18]
  by_cases c19 : v.op = 23
  · rw [if_pos c19]
    unfold St.call
    split
    · exact h4 _ (hput _ _ _ h0)
    · exact hgoto _ _ (hlay _ _ _ _ _ (hput _ _ _ h0))
  rw [if_neg c19]
  by_cases c20 : v.op = 24
  · rw [if_pos c20]
    unfold St.ret
    split
    · exact hgoto _ _ (hput _ _ _ h0)
    · exact h5 _ h0
  rw [if_neg c20]
  by_cases c21 : v.op = 25
  · rw [if_pos c21]
    split
    · exact h4 _ h0
    · exact h0
  rw [if_neg c21]
  by_cases c22 : v.op = 26
  · rw [if_pos c22]
    unfold St.alloc
    obtain ⟨u, hu⟩ : ∃ u, (if up (s.reg v.b) = 0 then 8 else up (s.reg v.b)) = u := ⟨_, rfl⟩
    rw [hu]
    by_cases d1 : 1048576 < s.reg v.b
    · rw [if_pos d1]; exact h4 _ h0
    rw [if_neg d1]
    by_cases d2 : I.lim < s.hp + u
    · rw [if_pos d2]; exact h4 _ h0
    rw [if_neg d2]
    exact hhp _ _ (hput _ _ _ h0)
  rw [if_neg c22, if_neg h27]
  by_cases c24 : v.op = 28
  · rw [if_pos c24]; exact hstop _ _ _ (by decide) h0
  rw [if_neg c24]
  by_cases c25 : v.op = 29
  · rw [if_pos c25]; exact hstop _ _ _ (by decide) h0
  rw [if_neg c25]
  exact h0
theorem exec_emit (I : Im) (v : InV) (s : St) (h : v.op = 27) : exec I v s = { s with out := s.out ++ [s.reg v.a] } := by
  unfold exec
  simp [h]
/-- the same of a whole step -/
theorem step_ind {P : St → Prop} (hput : ∀ t a x, P t → P (t.put a x)) (hstop : ∀ t e n, e = 1 ∨ e = 2 ∨ e = 4 ∨ e = 5 → P t → P (t.stop e n)) (hpl : ∀ t p, P t → P { t with pl := p }) (hm : ∀ t m, P t → P { t with m := m }) (hhp : ∀ t p, P t → P { t with hp := p }) (hf : ∀ t k x y, P t → P (t.flg k x y)) (ho : ∀ t o, P t → P { t with out := o }) (I : Im) (s : St) (h0 : P s) : P (step I s) := by
  unfold step
  split
  · split
    · by_cases h27 : (next I s.pl).1.op = 27
      · rw [exec_emit _ _ _ h27]
        exact ho _ _ (hpl _ _ h0)
      · exact exec_ind hput hstop hpl hm hhp hf I _ _ h27 (hpl _ _ h0)
    · exact hstop _ _ _ (by decide) h0
  · exact h0
theorem stop_or (t : St) (e n : Int) : t.stop e n = t ∨ t.stop e n = { t with e := e, n := n } := by
  unfold St.stop; split
  · exact .inr rfl
  · exact .inl rfl
/-- an end by fuel is no machine's own -/
theorem step_ne3 (I : Im) (s : St) (h : s.e ≠ 3) : (step I s).e ≠ 3 := by
  refine step_ind (P := fun t => t.e ≠ 3) (fun t a x h => h) (fun t e n he h => ?_) (fun t p h => h) (fun t m h => h) (fun t p h => h) (fun t k x y h => h) (fun t o h => h) I s h
  rcases stop_or t e n with h1 | h1
  · rw [h1]; exact h
  · rw [h1]; show e ≠ 3; omega
/-- flags are words of their kind -/
theorem step_fc (I : Im) (s : St) (h : s.Fc) : (step I s).Fc := by
  refine step_ind (P := St.Fc) (fun t a x h => h) (fun t e n he h => ?_) (fun t p h => h) (fun t m h => h) (fun t p h => h) (fun t k x y h => ⟨Wd.canon_canon k x, Wd.canon_canon k y⟩) (fun t o h => h) I s h
  rcases stop_or t e n with h1 | h1
  · rw [h1]; exact h
  · rw [h1]; exact h
/-- what a step tells -/
def tells (I : Im) (s : St) : List Int := if (next I s.pl).2.2 = true ∧ (next I s.pl).1.op = 27 then [s.reg (next I s.pl).1.a] else []
theorem step_out (I : Im) (s : St) (h : s.e = 0) : (step I s).out = s.out ++ tells I s := by
  unfold step tells
  rw [if_pos h]
  by_cases hn : (next I s.pl).2.2 = true
  · rw [if_pos hn]
    by_cases h27 : (next I s.pl).1.op = 27
    · rw [if_pos ⟨hn, h27⟩, exec_emit _ _ _ h27]; rfl
    · rw [if_neg (fun h => h27 h.2), List.append_nil]
      refine exec_ind (P := fun t => t.out = s.out) (fun t a x h => h) (fun t e n he h => ?_) (fun t p h => h) (fun t m h => h) (fun t p h => h) (fun t k x y h => h) I _ _ h27 rfl
      rcases stop_or t e n with h1 | h1
      · rw [h1]; exact h
      · rw [h1]; exact h
  · rw [if_neg hn, if_neg (fun h => hn h.1), List.append_nil]
    rcases stop_or s 5 0 with h1 | h1
    · rw [h1]
    · rw [h1]
theorem tells_going (I : Im) (s : St) (h : s.e = 0) (ht : tells I s ≠ []) : (step I s).e = 0 := by
  unfold tells at ht
  by_cases hc : (next I s.pl).2.2 = true ∧ (next I s.pl).1.op = 27
  · unfold step
    rw [if_pos h, if_pos hc.1, exec_emit _ _ _ hc.2]
    exact h
  · rw [if_neg hc] at ht; exact absurd rfl ht
theorem step_ended (I : Im) (s : St) (h : s.e ≠ 0) : step I s = s := by unfold step; rw [if_neg h]
/-- n steps, and how many were taken of them -/
def it (I : Im) : Nat → St → St
  | 0, s => s
  | n + 1, s => step I (it I n s)
def cnt (I : Im) : Nat → St → Nat
  | 0, _ => 0
  | n + 1, s => if (it I n s).e = 0 then cnt I n s + 1 else cnt I n s
theorem it_ended (I : Im) (s : St) (n : Nat) (h : (it I n s).e ≠ 0) (m : Nat) : it I (n + m) s = it I n s ∧ cnt I (n + m) s = cnt I n s := by
  induction m with
  | zero => exact ⟨rfl, rfl⟩
  | succ m ih =>
    obtain ⟨i1, i2⟩ := ih
    show step I (it I (n + m) s) = _ ∧ (if (it I (n + m) s).e = 0 then cnt I (n + m) s + 1 else cnt I (n + m) s) = _
    rw [i1, if_neg h, i2]
    exact ⟨step_ended I _ h, rfl⟩
theorem cnt_le (I : Im) (s : St) (n : Nat) : cnt I n s ≤ n := by
  induction n with
  | zero => exact Nat.le_refl _
  | succ n ih =>
    show (if (it I n s).e = 0 then cnt I n s + 1 else cnt I n s) ≤ n + 1
    split <;> omega
theorem cnt_going (I : Im) (s : St) (n : Nat) (h : ∀ i, i < n → (it I i s).e = 0) : cnt I n s = n := by
  induction n with
  | zero => rfl
  | succ n ih =>
    show (if (it I n s).e = 0 then cnt I n s + 1 else cnt I n s) = n + 1
    rw [if_pos (h n (by omega)), ih (fun i hi => h i (by omega))]
theorem going_below (I : Im) (s : St) (n : Nat) (h : (it I n s).e = 0) : ∀ i, i < n → (it I i s).e = 0 := by
  intro i hi
  rcases Decidable.em ((it I i s).e = 0) with h1 | h1
  · exact h1
  · have := (it_ended I s i h1 (n - i)).1
    rw [show i + (n - i) = n from by omega] at this
    rw [this] at h
    exact h
/-- a run that has come to step j, and goes no further -/
theorem it_stop (I : Im) (s : St) (j F : Nat) (hj : j ≤ F) (h : ∀ i, i < j → (it I i s).e = 0) (he : (it I j s).e ≠ 0 ∨ j = F) : it I F s = it I j s ∧ cnt I F s = j := by
  rcases he with he | rfl
  · have := it_ended I s j he (F - j)
    rw [show j + (F - j) = F from by omega] at this
    exact ⟨this.1, this.2.trans (cnt_going I s j h)⟩
  · exact ⟨rfl, cnt_going I s j h⟩
theorem it_cnt (I : Im) (s : St) (n : Nat) : it I (cnt I n s) s = it I n s ∧ cnt I (cnt I n s) s = cnt I n s := by
  induction n with
  | zero => exact ⟨rfl, rfl⟩
  | succ n ih =>
    by_cases h : (it I n s).e = 0
    · have hc : cnt I (n + 1) s = n + 1 := cnt_going I s _ (fun i hi => by
        rcases Nat.lt_or_ge i n with h1 | h1
        · exact going_below I s n h i h1
        · rw [show i = n from by omega]; exact h)
      rw [hc]
      exact ⟨rfl, hc⟩
    · have e1 : cnt I (n + 1) s = cnt I n s := by show (if (it I n s).e = 0 then _ else _) = _; rw [if_neg h]
      have e2 : it I (n + 1) s = it I n s := step_ended I _ h
      rw [e1, e2]
      exact ih
theorem cnt_full (I : Im) (s : St) (n : Nat) (h : (it I n s).e = 0) : cnt I n s = n := cnt_going I s n (going_below I s n h)
theorem it_ne3 (I : Im) (s : St) (n : Nat) (h : s.e ≠ 3) : (it I n s).e ≠ 3 := by
  induction n with
  | zero => exact h
  | succ n ih => exact step_ne3 I _ ih
theorem it_fc (I : Im) (s : St) (n : Nat) (h : s.Fc) : (it I n s).Fc := by
  induction n with
  | zero => exact h
  | succ n ih => exact step_fc I _ ih
theorem step_prefix (I : Im) (s : St) : ∃ l, (step I s).out = s.out ++ l := by
  by_cases h : s.e = 0
  · exact ⟨_, step_out I s h⟩
  · exact ⟨[], by rw [step_ended I s h, List.append_nil]⟩
theorem it_prefix (I : Im) (s : St) (n m : Nat) : ∃ l, (it I (n + m) s).out = (it I n s).out ++ l := by
  induction m with
  | zero => exact ⟨[], by rw [List.append_nil]; rfl⟩
  | succ m ih =>
    obtain ⟨l, hl⟩ := ih
    obtain ⟨l', hl'⟩ := step_prefix I (it I (n + m) s)
    exact ⟨l ++ l', by show (step I (it I (n + m) s)).out = _; rw [hl', hl, List.append_assoc]⟩
theorem tells_len (I : Im) (s : St) : (tells I s).length ≤ 1 := by unfold tells; split <;> simp
theorem it_len (I : Im) (s : St) (n : Nat) : (it I n s).out.length ≤ s.out.length + n := by
  induction n with
  | zero => exact Nat.le_refl _
  | succ n ih =>
    show (step I (it I n s)).out.length ≤ _
    by_cases h : (it I n s).e = 0
    · rw [step_out I _ h, List.length_append]
      have := tells_len I (it I n s)
      omega
    · rw [step_ended I _ h]; omega
end Ru
end Go.Proofs.YtdklaeppcjopoaaGreat

/- A watch of no calls: what it sees of any step. -/
namespace Go.Proofs.YtdklaeppcjopoaaGreat
open Go.RowKit
set_option linter.unusedVariables false

/-- registers of an instruction that was read -/
theorem next_rng {I : Ru.Im} {p : Int} (ht : I.t = 1 ∨ I.t = 2) (h : (Ru.next I p).2.2 = true) : 0 ≤ (Ru.next I p).1.a ∧ (Ru.next I p).1.a < 16 := by
  unfold Ru.next at h ⊢
  by_cases h1 : p < 0 ∨ (I.N : Int) < p
  · rw [if_pos h1] at h; cases h
  · rw [if_neg h1] at h ⊢
    rcases ht with t1 | t2
    · rw [if_pos t1] at h ⊢
      by_cases h8 : (I.N : Int) - p < 8
      · rw [if_pos h8] at h; cases h
      · rw [if_neg h8] at h ⊢
        dsimp only at h ⊢
        cases hok : Rc.okB (Ru.sh I.g p.toNat)
        · rw [Rc.de_no hok] at h; cases h
        · have hm : Rc.mayB (Rc.rd (Ru.sh I.g p.toNat)) = true := by unfold Rc.okB at hok; exact (Bool.and_eq_true _ _ ▸ hok).2
          rw [Rc.dv_ok hok]
          unfold Rc.mayB Rc.regB at hm
          simp only [Bool.and_eq_true, decide_eq_true_eq, beq_iff_eq] at hm
          refine ⟨?_, ?_⟩ <;> simp_all
    · rw [if_neg (by omega)] at h ⊢
      dsimp only at h ⊢
      obtain ⟨D, hD⟩ : ∃ D, Cc.dec (I.N - p.toNat) (Ru.sh I.g p.toNat) = D := ⟨_, rfl⟩
      rw [hD] at h ⊢
      obtain ⟨v, T, E⟩ := D
      have hE : E = 0 := by simpa using h
      subst hE
      have R := Cc.rng (Cc.dec_ok hD).1
      exact ⟨R.a1, R.a2⟩
/-- all but a watch's row, and what lies beyond, is as it was -/
structure Wk (V base : Nat) (w w' : World) : Prop where
  os : w'.os = w.os
  tape : w'.tape = w.tape
  output : w'.output = w.output
  size : w.heap.size ≤ w'.heap.size
  block : ∀ k, k < w.heap.size → k < base → k ≠ V → w'.heap[k]? = w.heap[k]?
theorem Wk.of {V base : Nat} {w w' : World} {row : Option Nat} (g : w.grownBy w' row) (h : ∀ k, row = some k → base ≤ k ∨ k = V) : Wk V base w w' := ⟨g.os, g.tape, g.output, g.size, fun k hk hb hV => g.block k hk (fun e => by rcases h k e.symm with h | h <;> omega)⟩
theorem Wk.trans {V base : Nat} {w w' w'' : World} (a : Wk V base w w') (b : Wk V base w' w'') : Wk V base w w'' := ⟨b.os.trans a.os, b.tape.trans a.tape, b.output.trans a.output, Nat.le_trans a.size b.size, fun k hk hb hV => (b.block k (Nat.lt_of_lt_of_le hk a.size) hb hV).trans (a.block k hk hb hV)⟩
/-- where a machine lies ahead of a watch -/
structure Ahead (h : Pd) (K base : Nat) : Prop where
  b : h.B < K
  m : h.M < K
  d : h.D < K
  c : ∀ b off, 0 < h.N → h.ao = some ⟨b, off, none⟩ → b < K
  k : K + 2 ≤ base
theorem IsC.wk {h : Pd} {s : Ru.St} {w w' : World} {K base : Nat} (x : IsC w h s) (a : Ahead h K base) (k : Wk (K + 1) base w w') : IsC w' h s where
  hd := x.hd.of_block (k.block _ x.hd.lt (by have := a.b; have := a.k; omega) (by have := a.b; omega))
  mm := ⟨x.mm.head.of_block (k.block _ x.mm.head.lt (by have := a.m; have := a.k; omega) (by have := a.m; omega)), x.mm.row.of_block (k.block _ x.mm.row.lt (by have := a.d; have := a.k; omega) (by have := a.d; omega)), x.mm.fit⟩
  cd := by
    refine ⟨x.cd.nil, x.cd.le, x.cd.max, x.cd.fit, ?_, fun b off h0 e => Nat.lt_of_lt_of_le (x.cd.lt b off h0 e) k.size⟩
    rcases Nat.eq_zero_or_pos h.N with h0 | h0
    · exact .inl h0
    · obtain ⟨b, off, e, hc⟩ := x.cd.bs.at h0
      have hb := a.c b off h0 e
      have hk := a.k
      exact .inr ⟨b, off, e, fun i hi => (World.cell?_of_block (w := w) (k.block b (x.cd.lt b off h0 e) (by omega) (by omega))).trans (hc i hi)⟩
  cb := x.cb
  s1 := x.s1
  s2 := x.s2
  ok := x.ok
theorem OwnW.mc {h : Pd} {w w' : World} {base K : Nat} {tr : Value} {l : List Int} (o : OwnW w base tr l) (m : Mc h w w') (a : Ahead h K base) : OwnW w' base tr l := by
  obtain ⟨h1, h⟩ := o
  rcases h with h | ⟨b, cap, cur, rfl, hb, hh, hr⟩
  · exact ⟨h1, .inl h⟩
  · refine ⟨h1, .inr ⟨b, cap, cur, rfl, hb, ?_, hr⟩⟩
    have hl : b < w.heap.size := by
      rcases Nat.lt_or_ge b w.heap.size with h | h
      · exact h
      · rw [Array.getElem?_eq_none h] at hh; cases hh
    have h1 := a.b
    have h2 := a.d
    have h3 := a.k
    rw [m.block b hl (by omega) (by omega)]
    exact hh
theorem OwnW.set {w : World} {base V k : Nat} {tr v : Value} {l : List Int} (o : OwnW w base tr l) (h : V < base) : OwnW (w.setCell ⟨V, k, none⟩ v) base tr l := ownsRow_setCell_below o (a := ⟨V, k, none⟩) h v
/-- a watch sees a step -/
theorem see_any {h : Pd} {s : Ru.St} {w : World} {K base : Nat} {tr : Value} {st : Int} {l : List Int} (x : IsC w h s) (A : Ahead h K base) (iw : IsWn w (K + 1) K tr st) (ow : OwnW w base tr l) (hl : l.length ≤ 2000000) (hb : base ≤ w.heap.size) (v : InV) (hv : 0 ≤ v.a ∧ v.a < 16) :
    Calls Tryz.prog 35 #[.pointer (some ⟨K + 1, 0, none⟩), inst' v, .pointer (some ⟨h.B, 0, none⟩)] w fun r w' => r = .returned (.tuple #[]) ∧ Wk (K + 1) base w w' ∧ ∃ tr', IsWn w' (K + 1) K tr' st ∧ OwnW w' base tr' (l ++ if v.op = 27 then [s.reg v.a] else []) := by
  have hk2 := A.k
  have quiet : ∀ {w'}, w.grownBy w' none → v.op ≠ 27 → Wk (K + 1) base w w' ∧ ∃ tr', IsWn w' (K + 1) K tr' st ∧ OwnW w' base tr' (l ++ if v.op = 27 then [s.reg v.a] else []) := fun g h27 => by
    refine ⟨Wk.of g (by simp), tr, iw.kept (g.block _ (by omega) (by simp)) (g.block _ (by omega) (by simp)), ?_⟩
    rw [if_neg h27, List.append_nil]
    exact World.ownsRow.kept ow g (by cases tr.ownBlock <;> simp)
  unfold inst'
  by_cases h27 : v.op = 27
  · obtain ⟨a, ha⟩ : ∃ a : Nat, v.a = a := ⟨v.a.toNat, by omega⟩
    obtain ⟨ao, cp, rfl⟩ := ow.slice
    have := see_emit (w := w) (K + 1) h.B base v.op v.b v.c v.k v.sub v.scale v.imm v.label (s.r a) a (by omega) l ao cp h27 ow hb hl (by omega) iw.c3 (iw.fz 3) (x.rc (by omega))
    rw [← ha] at this
    refine this.mono ?_
    rintro r w' ⟨rfl, v', w1, rfl, ho, hg⟩
    have hne : some (K + 1) ≠ (Value.slice ao l.length cp).ownBlock := fun e => by have := (World.ownsRow.lt ow _ e.symm).1; omega
    have hne2 : some K ≠ (Value.slice ao l.length cp).ownBlock := fun e => by have := (World.ownsRow.lt ow _ e.symm).1; omega
    refine ⟨rfl, (Wk.of hg (fun k hk => .inl (World.ownsRow.lt ow _ hk).1)).trans (Wk.of (row := some (K + 1)) (grown_setCell _ _ _ _) (fun k hk => .inr (by injection hk with hk; exact hk.symm))), v', ?_, ?_⟩
    · have i1 : IsWn w1 (K + 1) K (.slice ao l.length cp) st := iw.kept (hg.block _ (by omega) hne) (hg.block _ (by omega) hne2)
      obtain ⟨c0, hr⟩ := i1.hd
      refine ⟨⟨c0, (hr.set 3 v').congr fun j hj => ?_⟩, ?_⟩
      · have hc : j = 0 ∨ j = 1 ∨ j = 2 ∨ j = 3 ∨ j = 4 ∨ j = 5 ∨ j = 6 ∨ j = 7 := by omega
        rcases hc with rfl | rfl | rfl | rfl | rfl | rfl | rfl | rfl <;> rfl
      · exact (Below.heap_setCell w1 ⟨K + 1, 3, none⟩ v' K (by show K ≠ K + 1; omega)).trans i1.mp
    · rw [if_pos h27]
      have e : s.reg v.a = s.r a := by unfold Ru.St.reg; rw [ha, Int.toNat_natCast]
      rw [e]
      exact ho.set (by omega)
  · by_cases h23 : v.op = 23
    · exact (see_call (w := w) (K + 1) h.B K v.op v.a v.b v.c v.k v.sub v.scale v.imm v.label (Ru.wr s.pl) h23 iw.c1 iw.mp x.c1).mono fun r w' ⟨e, g⟩ => ⟨e, quiet g h27⟩
    · by_cases h24 : v.op = 24
      · exact (see_ret (w := w) (K + 1) h.B v.op v.a v.b v.c v.k v.sub v.scale v.imm v.label h24 iw.c2).mono fun r w' ⟨e, g⟩ => ⟨e, quiet g h27⟩
      · exact (see_none (w := w) (K + 1) h.B v.op v.a v.b v.c v.k v.sub v.scale v.imm v.label (by simpa using h27) (by simpa using h23) (by simpa using h24)).mono fun r w' ⟨e, g⟩ => ⟨e, quiet g h27⟩
end Go.Proofs.YtdklaeppcjopoaaGreat

/- run.New: its contract. -/
namespace Go.Proofs.YtdklaeppcjopoaaGreat
open Go.RowKit
set_option linter.unusedVariables false

/-- what came in as an image, and how a machine begins -/
def Ru.init (I : Ig) (S an : Nat) (ag : Nat → Int) : Ru.St where
  r := fun i => if i < an then ag i else if i = 15 then S else 0
  pl := I.en
  hp := Ru.up (4096 + I.dn)
  k := 0
  x := 0
  y := 0
  m := Mm.pt (fun _ => 0) 4096 I.dn I.dg
  out := []
  e := 0
  n := 0
set_option maxRecDepth 100000 in
set_option maxHeartbeats 4000000 in
theorem new_image_no {I : Ig} {w : World} (hI : I.In w) (hm : I.mayB = false) (S : Int) (aa : Option Addr) (an ac : Nat) : Calls Tryz.prog 18 #[I.val, .int .i64 S, .slice aa an ac] w fun r w' => r = .returned (.tuple #[.pointer none, .int .i64 50]) ∧ w.grownBy w' none := by
  have HM : Hid (∀ W, W.heap.size = W.heap.size → w.grownBy W none → Calls Tryz.prog 46 #[I.val] W fun r w' => r = .returned (.bool false) ∧ W.grownBy w' none) := fun W _ g => by have := image_any (hI.kept g); rw [hm] at this; exact this
  obtain ⟨t, ca, cn, cc, cg, da, dn, dc, dg, en, fa, fn, fc, fg⟩ := I
  unfold Ig.val at HM ⊢
  dsimp only at HM ⊢
  have G := World.grownBy_alloc w (Obj.cells #[.int .i64 t, .slice ca cn cc, .slice da dn dc, .int .i64 en, .slice fa fn fc] 27) none
  clear hI hm
  go_enter Tryz.func18, Tryz.ntmps18
  go_wp2_with (go_at_call 46; refine (HM.out _ rfl G).mono ?_; rintro r w1 ⟨rfl, g1⟩)
  go_ret2
  exact ⟨rfl, grown_trans G g1⟩
set_option maxRecDepth 100000 in
set_option maxHeartbeats 4000000 in
theorem new_args_no {I : Ig} {w : World} (hI : I.In w) (hm : I.mayB = true) (S : Int) (aa : Option Addr) (an ac : Nat) (ha : 6 < (an : Int)) (ha2 : (an : Int) ≤ 9223372036854775807) : Calls Tryz.prog 18 #[I.val, .int .i64 S, .slice aa an ac] w fun r w' => r = .returned (.tuple #[.pointer none, .int .i64 50]) ∧ w.grownBy w' none := by
  have HM : Hid (∀ W, W.heap.size = W.heap.size → w.grownBy W none → Calls Tryz.prog 46 #[I.val] W fun r w' => r = .returned (.bool true) ∧ W.grownBy w' none) := fun W _ g => by have := image_any (hI.kept g); rw [hm] at this; exact this
  obtain ⟨t, ca, cn, cc, cg, da, dn, dc, dg, en, fa, fn, fc, fg⟩ := I
  unfold Ig.val at HM ⊢
  dsimp only at HM ⊢
  have G := World.grownBy_alloc w (Obj.cells #[.int .i64 t, .slice ca cn cc, .slice da dn dc, .int .i64 en, .slice fa fn fc] 27) none
  clear hI hm
  go_enter Tryz.func18, Tryz.ntmps18
  go_wp2_with (go_at_call 46; refine (HM.out _ rfl G).mono ?_; rintro r w1 ⟨rfl, g1⟩)
  go_ret2
  exact ⟨rfl, grown_trans G g1⟩
set_option maxRecDepth 100000 in
set_option maxHeartbeats 4000000 in
theorem new_size_no {I : Ig} {w : World} (hI : I.In w) (hm : I.mayB = true) (S : Int) (aa : Option Addr) (an ac : Nat) (ha : (an : Int) ≤ 6) (hS : S < 8192 ∨ 1048576 < S) : Calls Tryz.prog 18 #[I.val, .int .i64 S, .slice aa an ac] w fun r w' => r = .returned (.tuple #[.pointer none, .int .i64 50]) ∧ w.grownBy w' none := by
  have HM : Hid (∀ W, W.heap.size = W.heap.size → w.grownBy W none → Calls Tryz.prog 46 #[I.val] W fun r w' => r = .returned (.bool true) ∧ W.grownBy w' none) := fun W _ g => by have := image_any (hI.kept g); rw [hm] at this; exact this
  have HN : Hid (∀ W, Calls Tryz.prog 47 #[.int .i64 S] W fun e w' => e = .returned (.tuple #[.pointer none, .int .i64 20]) ∧ w' = W) := fun W => new_out S W hS
  obtain ⟨t, ca, cn, cc, cg, da, dn, dc, dg, en, fa, fn, fc, fg⟩ := I
  unfold Ig.val at HM ⊢
  dsimp only at HM ⊢
  have G := World.grownBy_alloc w (Obj.cells #[.int .i64 t, .slice ca cn cc, .slice da dn dc, .int .i64 en, .slice fa fn fc] 27) none
  have B2 : (w.alloc (Obj.cells #[.int .i64 t, .slice ca cn cc, .slice da dn dc, .int .i64 en, .slice fa fn fc] 27)).cell? ⟨w.heap.size, 2, none⟩ = some (.slice da dn dc) := by simp
  clear hI hm hS
  go_enter Tryz.func18, Tryz.ntmps18
  go_wp2_with (first
    | (go_at_call 46; refine (HM.out _ rfl G).mono ?_; rintro r w1 ⟨rfl, g1⟩; have b2 := g1.cell B2 (by simp))
    | (go_at_call 47; refine (HN.out _).mono ?_; rintro r w2 ⟨rfl, hw2⟩; rw [hw2]; clear hw2 w2))
  go_ret2
  exact ⟨rfl, grown_trans G g1⟩
end Go.Proofs.YtdklaeppcjopoaaGreat

/- A region that draws its order, whose head's operations each establish what is known of their own value, whatever came ahead: calls and allocations among them may be anywhere. -/
namespace Go.Proofs.YtdklaeppcjopoaaGreat
open Go.RowKit
set_option linter.unusedVariables false

section
variable {P : Program} {ops : Array Oper}

def dstOf (ops : Array Oper) (i : Nat) : Option Tmp := (ops[i]?).bind (·.dst)
/-- a frame in which the first i operations have left these values -/
def frV (ops : Array Oper) (a0 : Act) (V : Nat → Value) : Nat → Act
  | 0 => a0
  | i + 1 => (frV ops a0 V i).put (dstOf ops i) (V i)
/-- what the operation number i waits for, of those ahead of it -/
def depsOf (ops : Array Oper) (i : Nat) : List Nat := (List.range i).filter fun j => Region.waitsFor .any ops i j
/-- an operation looks at nothing that is written later; what it looks at of the head it waits for; it is not guarded -/
def lookB (ops : Array Oper) (n : Nat) : Bool :=
  (List.range n).all fun i => match ops[i]? with
    | none => false
    | some o => o.guard.isNone && (o.looksAt ops).all fun t => (List.range n).all fun k => !(dstOf ops k == some t) || (decide (k < i) && Region.waitsFor .any ops i k)

theorem lookB_spec {n i : Nat} {o : Oper} (h : lookB ops n = true) (hi : i < n) (ho : ops[i]? = some o) : o.guard = none ∧ ∀ t, t ∈ o.looksAt ops → ∀ k, k < n → dstOf ops k = some t → k < i ∧ Region.waitsFor .any ops i k = true := by
  have h1 := List.all_eq_true.1 h i (List.mem_range.2 hi)
  simp only [ho, Bool.and_eq_true, Option.isNone_iff_eq_none, List.all_eq_true, List.mem_range, Bool.or_eq_true, Bool.not_eq_true', beq_eq_false_iff_ne, decide_eq_true_eq] at h1
  refine ⟨h1.1, fun t ht k hk hd => ?_⟩
  rcases h1.2 t ht k hk with h2 | h2
  · exact absurd hd h2
  · exact h2

/-- the frame as it stands: what has come up has left its value, all else is as it was -/
structure FrInv (ops : Array Oper) (n : Nat) (a0 : Act) (Ψ : Nat → Value → World → Prop) (listed : Array Bool) (a : Act) (w : World) : Prop where
  size : a.tmps.size = a0.tmps.size
  defers : a.defers = a0.defers
  old : ∀ s, (∀ i, i < n → listed.getD i false = true → dstOf ops i ≠ some s) → a.tmps[s]? = a0.tmps[s]?
  val : ∀ i d, i < n → listed.getD i false = true → dstOf ops i = some d → Ψ i (a.tmps.getD d undef) w
  non : ∀ i, i < n → listed.getD i false = true → dstOf ops i = none → Ψ i undef w

def valOf (ops : Array Oper) (a : Act) (i : Nat) : Value := match dstOf ops i with | some d => a.tmps.getD d undef | none => undef

theorem put_size (a : Act) (d : Option Tmp) (v : Value) : (a.put d v).tmps.size = a.tmps.size := by cases d <;> simp [Act.put]
theorem put_same (a : Act) (d : Tmp) (v : Value) (h : d < a.tmps.size) : (a.put (some d) v).tmps[d]? = some v := by simp [Act.put, h]
theorem put_other (a : Act) {d : Option Tmp} {s : Nat} (v : Value) (h : d ≠ some s) : (a.put d v).tmps[s]? = a.tmps[s]? := by
  cases d with
  | none => rfl
  | some d =>
    have : d ≠ s := fun e => h (by rw [e])
    simp [Act.put, Array.getElem?_setIfInBounds_ne this]
theorem frV_size (a0 : Act) (V : Nat → Value) (i : Nat) : (frV ops a0 V i).tmps.size = a0.tmps.size := by
  induction i with
  | zero => rfl
  | succ i ih => rw [frV, put_size]; exact ih
theorem frV_defers (a0 : Act) (V : Nat → Value) (i : Nat) : (frV ops a0 V i).defers = a0.defers := by
  induction i with
  | zero => rfl
  | succ i ih => rw [frV, put_defers]; exact ih
/-- where it writes, it writes what stands in a -/
theorem frV_in (a0 a : Act) (hs : a.tmps.size = a0.tmps.size) (i : Nat) : ∀ s, (∃ j, j < i ∧ dstOf ops j = some s) → s < a0.tmps.size → (frV ops a0 (valOf ops a) i).tmps[s]? = a.tmps[s]? := by
  induction i with
  | zero => rintro s ⟨j, hj, _⟩; omega
  | succ i ih =>
    rintro s ⟨j, hj, hd⟩ hlt
    rw [frV]
    by_cases he : dstOf ops i = some s
    · rw [he, put_same _ _ _ (by rw [frV_size]; exact hlt)]
      unfold valOf
      rw [he]
      simp [hs, hlt]
    · rw [put_other _ _ he]
      refine ih s ⟨j, ?_, hd⟩ hlt
      rcases Nat.lt_succ_iff_lt_or_eq.1 hj with h | h
      · exact h
      · subst h; exact absurd hd he
theorem frV_out (a0 : Act) (V : Nat → Value) (i : Nat) : ∀ s, (∀ j, j < i → dstOf ops j ≠ some s) → (frV ops a0 V i).tmps[s]? = a0.tmps[s]? := by
  induction i with
  | zero => intro s _; rfl
  | succ i ih =>
    intro s h
    rw [frV, put_other _ _ (h i (by omega))]
    exact ih s fun j hj => h j (by omega)

/-- what an operation's step must show -/
def stepV (P : Program) (ops : Array Oper) (Ψ : Nat → Value → World → Prop) (i : Nat) (a : Act) (w : World) : Prop :=
  match ops[i]? with
  | none => False
  | some o => match (execOp a.eval o).run P w with
    | .ok (.value v) w' => w.grownBy w' none ∧ Ψ i v w'
    | .ok .skip w' => w.grownBy w' none ∧ Ψ i undef w'
    | .ok (.enter f args) w' => Calls P f args w' (fun e w'' => ∃ v, e = .returned v ∧ w.grownBy w'' none ∧ Ψ i v w'')
    | _ => False
def dstB (ops : Array Oper) (n sz : Nat) : Bool :=
  (List.range n).all fun i => (match dstOf ops i with | some d => decide (d < sz) | none => false) && (List.range n).all fun j => i == j || dstOf ops i == none || !(dstOf ops i == dstOf ops j)
theorem dstB_lt {n sz i d : Nat} (h : dstB ops n sz = true) (hi : i < n) (hd : dstOf ops i = some d) : d < sz := by
  have h1 := List.all_eq_true.1 h i (List.mem_range.2 hi)
  simp only [hd, Bool.and_eq_true, decide_eq_true_eq] at h1
  exact h1.1
theorem dstB_some {n sz i : Nat} (h : dstB ops n sz = true) (hi : i < n) : dstOf ops i ≠ none := by
  have h1 := List.all_eq_true.1 h i (List.mem_range.2 hi)
  intro e
  simp [e] at h1
theorem dstB_ne {n sz i j d : Nat} (h : dstB ops n sz = true) (hi : i < n) (hj : j < n) (hij : i ≠ j) (hd : dstOf ops i = some d) : dstOf ops j ≠ some d := by
  have h1 := List.all_eq_true.1 h i (List.mem_range.2 hi)
  simp only [Bool.and_eq_true] at h1
  have h2 := List.all_eq_true.1 h1.2 j (List.mem_range.2 hj)
  simp only [hd, Bool.or_eq_true, beq_iff_eq, hij, false_or, Bool.not_eq_true', beq_eq_false_iff_ne] at h2
  rcases h2 with h2 | h2
  · simp at h2
  · exact fun e => h2 e.symm
/-- all of the head, one behind the other -/
def lexed (m : Nat) : Nat → Array Bool
  | 0 => Array.replicate m false
  | k + 1 => (lexed m k).setIfInBounds k true
theorem lexed_size (m k : Nat) : (lexed m k).size = m := by
  induction k with
  | zero => simp [lexed]
  | succ k ih => simp [lexed, ih]
theorem lexed_get (m : Nat) : ∀ k j, j < m → (lexed m k).getD j false = decide (j < k) := by
  intro k
  induction k with
  | zero => intro j hj; simp [lexed, hj]
  | succ k ih =>
    intro j hj
    by_cases hkj : k = j
    · subst hkj
      have : k < (lexed m k).size := by rw [lexed_size]; exact hj
      simp [lexed, this]
    · rw [lexed, getD_set_ne false hkj, ih j hj]
      simp; omega
theorem lexHead_at {md : Region.Mode} {g : Nat} (m : Nat) : ∀ f k, Region.lexHead md ops g f k (lexed m k) = true → ∀ j, k ≤ j → j < k + f → j ∈ Region.ready md ops (lexed m j) := by
  intro f
  induction f with
  | zero => intro k _ j h1 h2; omega
  | succ f ih =>
    intro k h j h1 h2
    simp only [Region.lexHead, Bool.and_eq_true] at h
    by_cases hj : j = k
    · subst hj; simpa using h.1.1
    · exact ih (k + 1) h.2 j (by omega) (by omega)
theorem lexHead_end {md : Region.Mode} {g : Nat} (m : Nat) : ∀ f k, Region.lexHead md ops g f k (lexed m k) = true → Region.seqB md ops g (k + f) (lexed m (k + f)) = true := by
  intro f
  induction f with
  | zero => intro k h; exact h
  | succ f ih =>
    intro k h
    simp only [Region.lexHead, Bool.and_eq_true] at h
    have := ih (k + 1) h.2
    rwa [show k + 1 + f = k + (f + 1) by omega] at this
/-- how many of the head are still to come -/
def left (listed : Array Bool) (n : Nat) : Nat := ((List.range n).filter fun i => !listed.getD i false).length
theorem left_set {listed : Array Bool} {n i : Nat} (hi : i < n) (h : listed.getD i true = false) : left listed n = left (listed.setIfInBounds i true) n + 1 := by
  have hlt : i < listed.size := by
    rcases Nat.lt_or_ge i listed.size with h' | h'
    · exact h'
    · simp [Array.getElem?_eq_none h'] at h
  unfold left
  induction n with
  | zero => omega
  | succ n ih =>
    rw [List.range_succ, List.filter_append, List.filter_append, List.length_append, List.length_append]
    by_cases hin : i = n
    · subst hin
      have e1 : (List.range i).filter (fun j => !listed.getD j false) = (List.range i).filter (fun j => !(listed.setIfInBounds i true).getD j false) := by
        refine List.filter_congr fun j hj => ?_
        rw [getD_set_ne false (by have := List.mem_range.1 hj; omega)]
      rw [e1]
      have e2 : (listed.setIfInBounds i true).getD i false = true := by simp [hlt]
      have e3 : listed.getD i false = false := getD_both h
      have e4 : List.filter (fun j => !listed.getD j false) [i] = [i] := by simp only [List.filter_cons, e3]; rfl
      have e5 : List.filter (fun j => !(listed.setIfInBounds i true).getD j false) [i] = [] := by simp only [List.filter_cons, e2]; rfl
      rw [e4, e5]
      rfl
    · rw [ih (by omega)]
      have e6 : List.filter (fun j => !(listed.setIfInBounds i true).getD j false) [n] = List.filter (fun j => !listed.getD j false) [n] := by simp only [List.filter_cons, List.filter_nil, getD_set_ne false hin]
      rw [e6]
      omega
theorem left_zero {listed : Array Bool} {n : Nat} (h : left listed n = 0) : ∀ i, i < n → listed.getD i false = true := by
  intro i hi
  unfold left at h
  have := List.eq_nil_of_length_eq_zero h
  have h2 := List.filter_eq_nil_iff.1 this i (List.mem_range.2 hi)
  simpa using h2
theorem left_pos {listed : Array Bool} {n : Nat} (h : left listed n ≠ 0) : ∃ i, i < n ∧ listed.getD i false = false ∧ ∀ j, j < i → listed.getD j false = true := by
  have hex : ∃ i, i < n ∧ listed.getD i false = false := by
    refine Classical.byContradiction fun hno => h ?_
    unfold left
    rw [List.length_eq_zero_iff, List.filter_eq_nil_iff]
    intro i hi
    have : listed.getD i false ≠ false := fun e => hno ⟨i, List.mem_range.1 hi, e⟩
    simpa using this
  obtain ⟨i, hi⟩ := hex
  induction i using Nat.strongRecOn with
  | _ i ih =>
    by_cases hall : ∀ j, j < i → listed.getD j false = true
    · exact ⟨i, hi.1, hi.2, hall⟩
    · have : ∃ j, j < i ∧ listed.getD j false = false := by
        refine Classical.byContradiction fun hno => hall fun j hj => ?_
        have : listed.getD j false ≠ false := fun e => hno ⟨j, hj, e⟩
        simpa using this
      obtain ⟨j, hj, hjf⟩ := this
      exact ih j hj ⟨by omega, hjf⟩
theorem waits_listed {listed : Array Bool} {i j : Nat} (hr : i ∈ Region.ready .any ops listed) (h : Region.waitsFor .any ops i j = true) : listed.getD j false = true := by
  obtain ⟨_, o, ho, hall⟩ := mem_ready.1 hr
  obtain ⟨o', ho', e, he, hb, hon⟩ := Region.waitsFor_spec h
  obtain rfl : o' = o := Option.some.inj (ho'.symm.trans ho)
  rw [← hon]
  exact hall e he hb
theorem eval_same {a b : Act} {x : Operand} (h : ∀ t, x = .tmp t → a.tmps[t]? = b.tmps[t]?) : a.eval x = b.eval x := by
  cases x with
  | tmp t =>
    have := h t rfl
    simp only [Act.eval, Array.getD_eq_getD_getElem?, this]
  | _ => rfl
theorem any_of_inv {n : Nat} {a0 : Act} {W : World} {Q : Exit → Act → World → Prop} {Ψ : Nat → Value → World → Prop} {l : List Oper} (hl : ops = l.toArray)
    (hst : ∀ i v w w', i < n → Ψ i v w → w.grownBy w' none → Ψ i v w')
    (hsel : Region.noSelect ops = true) (hn : n < ops.size) (hs : Region.sinkB .any ops n = true) (hc : Region.chainB .any ops n = true) (hlex : Region.lexHead .any ops (ops.size - n) n 0 (lexed ops.size 0) = true)
    (hL : lookB ops n = true) (hD : dstB ops n a0.tmps.size = true)
    (hstep : ∀ i, i < n → ∀ V w', W.grownBy w' none → (∀ j, (depsOf ops i).contains j = true → Ψ j (V j) w') → stepV P ops Ψ i (frV ops a0 V i) w')
    (hend : ∀ V w', W.grownBy w' none → (∀ i, i < n → Ψ i (V i) w') → wpList P ops Q (l.drop n) (frV ops a0 V n) w') (f : Nat) :
    ∀ listed a w, left listed n = f → HeadInv .any ops n listed → FrInv ops n a0 Ψ listed a w → W.grownBy w none → wpAny P .any ops Q (f + (ops.size - n)) listed a w := by
  have hval : ∀ {listed a w i}, FrInv ops n a0 Ψ listed a w → i < n → listed.getD i false = true → Ψ i (valOf ops a i) w := by
    intro listed a w i inv hi hli
    unfold valOf
    cases hd : dstOf ops i with
    | none => exact inv.non i hi hli hd
    | some d => exact inv.val i d hi hli hd
  induction f with
  | zero =>
    intro listed a w hf hinv inv hg
    have hall := left_zero hf
    have ea : a = frV ops a0 (valOf ops a) n := by
      obtain ⟨tm, df⟩ := a
      have h1 : tm = (frV ops a0 (valOf ops ⟨tm, df⟩) n).tmps := by
        apply Array.ext_getElem?
        intro s
        by_cases hex : ∃ j, j < n ∧ dstOf ops j = some s
        · obtain ⟨j, hj, hd⟩ := hex
          exact (frV_in a0 ⟨tm, df⟩ inv.size n s ⟨j, hj, hd⟩ (dstB_lt hD hj hd)).symm
        · have hno : ∀ j, j < n → dstOf ops j ≠ some s := fun j hj hd => hex ⟨j, hj, hd⟩
          rw [frV_out a0 _ n s hno]
          exact inv.old s fun i hi _ => hno i hi
      have h2 : df = (frV ops a0 (valOf ops ⟨tm, df⟩) n).defers := by rw [frV_defers]; exact inv.defers
      generalize frV ops a0 (valOf ops ⟨tm, df⟩) n = b at *
      obtain ⟨bt, bd⟩ := b
      simp_all
    have el : listed = lexed ops.size n := by
      apply Array.ext
      · rw [lexed_size]; exact hinv.size
      · intro i h1 h2
        have e1 := lexed_get ops.size n i (by rw [← hinv.size]; exact h1)
        by_cases hin : i < n
        · have e2 := hall i hin
          have : (lexed ops.size n).getD i false = true := by rw [e1]; simp [hin]
          simp [h1, h2] at e2 this
          rw [e2, this]
        · have e2 := getD_both (hinv.tail i (by omega) (by rw [← hinv.size]; exact h1))
          have : (lexed ops.size n).getD i false = false := by rw [e1]; simp [hin]
          simp [h1, h2] at e2 this
          rw [e2, this]
    have hw := hend (valOf ops a) w hg fun i hi => hval inv hi (hall i hi)
    rw [← ea] at hw
    have hse := lexHead_end ops.size n 0 (by simpa using hlex)
    rw [Nat.zero_add] at hse
    have hdl : (l.drop n).length = ops.size - n := by rw [hl]; simp
    have T := wpAny_of_seq (md := .any) (P := P) (ops := ops) (Q' := Q) (l.drop n) n listed a w (fun j => by rw [hl]; simp [List.getElem?_drop]) (by rw [hdl, el]; exact hse) hw
    rw [hdl] at T
    rw [Nat.zero_add]
    exact T
  | succ f ih =>
    intro listed a w hf hinv inv hg
    obtain ⟨k, hk, hkf, hkall⟩ := left_pos (by rw [hf]; exact Nat.succ_ne_zero f)
    have hkt : listed.getD k true = false := getD_in (by rw [hinv.size]; omega) hkf
    have hkr : k ∈ Region.ready .any ops listed := by
      have h0 := lexHead_at ops.size n 0 (by simpa using hlex) k (Nat.zero_le _) (by omega)
      obtain ⟨_, o, ho, hall⟩ := mem_ready.1 h0
      refine mem_ready.2 ⟨hkt, o, ho, fun e he hb => ?_⟩
      have h1 := hall e he hb
      have h2 : e.on < ops.size := by
        rcases Nat.lt_or_ge e.on (lexed ops.size k).size with h' | h'
        · rw [lexed_size] at h'; exact h'
        · simp [Array.getElem?_eq_none h'] at h1
      rw [lexed_get ops.size k e.on h2] at h1
      exact hkall e.on (by simpa using h1)
    rw [Nat.add_right_comm]
    refine ⟨fun h0 => absurd h0 (List.ne_nil_of_mem hkr), fun i hi => ?_⟩
    have hin : i < n := Nat.lt_of_not_le fun h => tail_waits hs hc hn hinv _ k rfl hk hkt i h hi
    obtain ⟨hiun, o, ho, hall⟩ := mem_ready.1 hi
    obtain ⟨hgd, hlk⟩ := lookB_spec hL hin ho
    have hd : dstOf ops i = o.dst := by unfold dstOf; rw [ho]; rfl
    have S := hstep i hin (valOf ops a) w hg fun j hj => by
      have hj' := List.mem_filter.1 (show j ∈ depsOf ops i by simpa using hj)
      have hlt := List.mem_range.1 hj'.1
      exact hval inv (by omega) (waits_listed hi hj'.2)
    unfold stepV at S
    simp only [ho] at S
    have hex : execOp a.eval o = execOp (frV ops a0 (valOf ops a) i).eval o := by
      refine execOp_congr o (fun cs b => Region.noSelect_spec hsel i o cs b ho) fun x hx => eval_same fun t ht => ?_
      subst ht
      have htl : t ∈ o.looksAt ops := List.mem_append_left _ (List.mem_filterMap.2 ⟨.tmp t, by simpa using hx, rfl⟩)
      by_cases hexi : ∃ j, j < n ∧ dstOf ops j = some t
      · obtain ⟨j, hj, hdj⟩ := hexi
        obtain ⟨hji, _⟩ := hlk t htl j hj hdj
        exact (frV_in a0 a inv.size i t ⟨j, hji, hdj⟩ (dstB_lt hD hj hdj)).symm
      · have hno : ∀ j, j < n → dstOf ops j ≠ some t := fun j hj hd => hexi ⟨j, hj, hd⟩
        rw [frV_out a0 _ i t fun j hj => hno j (by omega)]
        exact inv.old t fun j hj _ => hno j hj
    have next : ∀ v w', w.grownBy w' none → Ψ i v w' → wpAny P .any ops Q (f + (ops.size - n)) (listed.setIfInBounds i true) (a.put o.dst v) w' := by
      intro v w' hg' hv
      have hlf : left (listed.setIfInBounds i true) n = f := by have := left_set hin hiun; omega
      refine ih _ _ _ hlf (hinv.set hi hin) ?_ (grown_trans hg hg')
      have hset : ∀ j, j ≠ i → (listed.setIfInBounds i true).getD j false = true → listed.getD j false = true := fun j hj h => by rwa [getD_set_ne false (Ne.symm hj)] at h
      refine ⟨(put_size _ _ _).trans inv.size, (put_defers _ _ _).trans inv.defers, fun s hs' => ?_, fun j d hj hjl hjd => ?_, fun j hj hjl hjd => ?_⟩
      · have h1 : dstOf ops i ≠ some s := hs' i hin (by
          have : i < listed.size := by rw [hinv.size]; omega
          simp [this])
        rw [put_other _ _ (by rw [← hd]; exact h1)]
        exact inv.old s fun j hj hjl => hs' j hj (getD_set_true hjl)
      · by_cases hji : j = i
        · subst hji
          have e : o.dst = some d := by rw [← hd]; exact hjd
          rw [e]
          have hlt : d < a.tmps.size := by rw [inv.size]; exact dstB_lt hD hin hjd
          have := put_same a d v hlt
          rw [Array.getD_eq_getD_getElem?, this]
          exact hv
        · have hne : o.dst ≠ some d := by rw [← hd]; exact dstB_ne hD hj hin hji hjd
          have := put_other a v hne
          rw [Array.getD_eq_getD_getElem?, this, ← Array.getD_eq_getD_getElem?]
          exact hst _ _ _ _ hj (inv.val j d hj (hset j hji hjl) hjd) hg'
      · by_cases hji : j = i
        · subst hji
          exact absurd hjd (dstB_some hD hin)
        · exact hst _ _ _ _ hj (inv.non j hj (hset j hji hjl) hjd) hg'
    unfold wpOp
    simp only [ho]
    have hwa : Region.wanted o (yielded ops a.tmps) = true := by unfold Region.wanted; rw [hgd]
    rw [if_pos hwa]
    refine .inl ?_
    unfold Oper.wp
    rw [hex]
    generalize (execOp (frV ops a0 (valOf ops a) i).eval o).run P w = r at S
    match r, S with
    | .ok (.value v) w', S => exact next v w' S.1 S.2
    | .ok .skip w', S => exact next undef w' S.1 S.2
    | .ok (.enter fn args) w', S =>
      rw [Oper.upon_enter]
      refine Calls.mono S ?_
      rintro e w'' ⟨v, rfl, h1, h2⟩
      exact next v w'' h1 h2
theorem stepV_val {Ψ : Nat → Value → World → Prop} {i : Nat} {o : Oper} {a : Act} {w w' : World} {v : Value} (ho : ops[i]? = some o) (hr : (execOp a.eval o).run P w = .ok (.value v) w') (hg : w.grownBy w' none) (hv : Ψ i v w') : stepV P ops Ψ i a w := by
  unfold stepV
  simp only [ho, hr]
  exact ⟨hg, hv⟩
theorem stepV_call {Ψ : Nat → Value → World → Prop} {i : Nat} {o : Oper} {a : Act} {w : World} {f : FuncId} {args : Array Value} (ho : ops[i]? = some o) (hr : (execOp a.eval o).run P w = .ok (.enter f args) w) (hc : Calls P f args w fun e w'' => ∃ v, e = .returned v ∧ w.grownBy w'' none ∧ Ψ i v w'') : stepV P ops Ψ i a w := by
  unfold stepV
  simp only [ho, hr]
  exact hc
/-- a last operation that yields nothing -/
theorem wpList_store1 {Q : Exit → Act → World → Prop} {o : Oper} {a : Act} {w w' : World} (hwant : Region.wanted o (yielded ops a.tmps) = true) (hr : (execOp a.eval o).run P w = .ok .skip w') (h : Q .normal (a.put o.dst undef) w') : wpList P ops Q [o] a w := by
  unfold wpList
  rw [if_pos hwant]
  refine .inl ?_
  unfold Oper.wp
  rw [hr, Oper.upon_skip]
  unfold wpList
  exact h
/-- **A region of which each operation of the head says what is known of its own value, whatever came ahead of it.** -/
theorem region_inv {id : Nat} {Q : Exit → Act → World → Prop} {a : Act} {w : World} {l : List Oper} (n : Nat) (Ψ : Nat → Value → World → Prop)
    (hm : P.follows .mixedOrders = true) (hB : Region.lexTailB .any l.toArray n = true) (hL : lookB l.toArray n = true) (hD : dstB l.toArray n a.tmps.size = true)
    (hst : ∀ i v w w', i < n → Ψ i v w → w.grownBy w' none → Ψ i v w')
    (hstep : ∀ i, i < n → ∀ V w', w.drew.grownBy w' none → (∀ j, (depsOf l.toArray i).contains j = true → Ψ j (V j) w') → stepV P l.toArray Ψ i (frV l.toArray a V i) w')
    (hend : ∀ V w', w.drew.grownBy w' none → (∀ i, i < n → Ψ i (V i) w') → wpList P l.toArray Q (l.drop n) (frV l.toArray a V n) w') : (Code.region id l.toArray true).wp P Q a w := by
  simp only [Region.lexTailB, Bool.and_eq_true, decide_eq_true_eq] at hB
  obtain ⟨⟨⟨⟨hsel, hn⟩, hs⟩, hc⟩, hlex⟩ := hB
  have inv0 : HeadInv .any l.toArray n (Array.replicate l.toArray.size false) :=
    ⟨by simp, fun j oj _ hl => (by rw [getD_replicate_false] at hl; cases hl), fun t _ ht => getD_in (by simpa using ht) (getD_replicate_false _ _)⟩
  have hl0 : left (Array.replicate l.toArray.size false) n = n := by
    unfold left
    rw [List.filter_eq_self.2 fun i _ => by rw [getD_replicate_false]; rfl]
    simp
  have fr0 : FrInv l.toArray n a Ψ (Array.replicate l.toArray.size false) a w.drew :=
    ⟨rfl, rfl, fun _ _ => rfl, fun i d _ h => (by rw [getD_replicate_false] at h; cases h), fun i _ h => (by rw [getD_replicate_false] at h; cases h)⟩
  have T := any_of_inv (P := P) (Q := Q) (ops := l.toArray) (n := n) (a0 := a) (W := w.drew) (Ψ := Ψ) rfl hst hsel hn hs hc (by simpa [lexed] using hlex) hL hD hstep hend n _ a w.drew hl0 inv0 fr0 (World.grownBy.refl _ _)
  rw [show n + (l.toArray.size - n) = l.toArray.size by omega] at T
  exact wp_region_any hm T
end
end Go.Proofs.YtdklaeppcjopoaaGreat

/- A struct stored over another, whole; words copied into a row. -/
namespace Go.Proofs.YtdklaeppcjopoaaGreat
open Go.RowKit
set_option linter.unusedVariables false

theorem getD_some (c : Array Value) (i : Nat) (h : i < c.size) : c[i]? = some (c.getD i undef) := by simp [Array.getD, h]
theorem info_u64 : (Tryz.prog.info? 57).map (·.size) = some 1 := by kernel_rfl
/-- a core stored whole -/
theorem run_store_core {w : World} {N : Nat} {f : Nat → Value} (xs : Array Value) (hr : w.rowIs N 81 23 f) (hx : xs.size = 23) (h1 : ∀ v ∈ xs.toList, v.oneCell' = true) :
    ∃ w', (Instr.storeAt 81 (.pointer (some ⟨N, 0, none⟩)) (.agg xs)).run Tryz.prog w = .ok () w' ∧ w'.rowIs N 81 23 (fun i => xs.getD i undef) ∧ w.grownBy w' (some N) := by
  obtain ⟨cur, hcur, hsz, _⟩ := hr
  have hs := run_storeCells_at Tryz.prog N 0 81 xs.toList 0 cur w hcur (by simp; omega) h1
  have e : (cur.toList.take (0 + 0) ++ xs.toList ++ cur.toList.drop (0 + 0 + xs.toList.length)).toArray = xs := by
    have : cur.toList.drop (0 + 0 + xs.toList.length) = [] := List.drop_eq_nil_of_le (by simp; omega)
    rw [this]
    simp
  rw [e] at hs
  refine ⟨w.setRow N xs, ?_, ⟨xs, setRow_heap w N _ _ _ _ hcur, hx, fun i hi => getD_some _ i (by omega)⟩, ⟨rfl, rfl, rfl, by simp [World.setRow], fun k hk hk2 => setRow_other w N k _ (fun e => hk2 (by rw [e]))⟩⟩
  have hi : (sizeOf 81).run Tryz.prog w = .ok 23 w := by kernel_rfl
  have hcl : (Value.agg xs).cells = xs := rfl
  simp only [Instr.storeAt, Instr.sureAddr, storeVar, hcl]
  simp [go_sem, hi, hx, hs]
/-- copy of words into a row of the call's own -/
theorem run_copy_words {w : World} {t : TypeId} (N S off dn dc b o' n cap : Nat) (f : Nat → Value) (g : Nat → Int) (hr : w.rowIs N t S f) (hn : n ≤ dn) (hfit : off + n ≤ S)
    (hc : ∀ i, i < n → w.cell? ⟨b, o' + i, none⟩ = some (.int .u64 (g i))) :
    ∃ w', (Builtin.copy_ #[28, 28] 3 #[.slice (some ⟨N, off, none⟩) dn dc, .slice (some ⟨b, o', none⟩) n cap]).run Tryz.prog w = .ok (goInt n) w' ∧
      w'.rowIs N t S (fun i => if off ≤ i ∧ i < off + n then .int .u64 (g (i - off)) else f i) ∧ w.grownBy w' (some N) := by
  obtain ⟨cur, hcur, hsz, hcc⟩ := hr
  have hlen : ((List.range n).map fun i => Value.int .u64 (g i)).length = n := by simp
  have hget : ∀ j v, ((List.range n).map fun i => Value.int .u64 (g i))[j]? = some v → j < n ∧ v = .int .u64 (g j) := fun j v hv => by
    rw [List.getElem?_map] at hv
    simp only [Option.map_eq_some_iff] at hv
    obtain ⟨x, hx, rfl⟩ := hv
    obtain ⟨hlt, hx⟩ := List.getElem?_eq_some_iff.1 hx
    simp at hlt hx
    subst hx
    exact ⟨hlt, rfl⟩
  have hrun := run_copy_row (P := Tryz.prog) w 28 28 3 57 N off dn dc ⟨b, o', none⟩ n cap cur t ((List.range n).map fun i => Value.int .u64 (g i)) Tryz.underlying28 info_u64 hcur (by rw [hlen]; exact (Nat.min_eq_left hn).symm) (by
    intro j v hv
    obtain ⟨hj, rfl⟩ := hget j v hv
    rw [add_none]
    exact hc j hj) (by rw [hlen]; omega) (by
    intro v hv
    simp only [List.mem_map] at hv
    obtain ⟨x, _, rfl⟩ := hv
    rfl)
  rw [hlen] at hrun
  refine ⟨_, hrun, ⟨_, setRow_heap w N _ _ _ _ hcur, ?_, ?_⟩, ⟨rfl, rfl, rfl, by simp [World.setRow], fun k hk hk2 => setRow_other w N k _ (fun e => hk2 (by rw [e]))⟩⟩
  · simp; omega
  · intro i hi
    have hci := hcc i hi
    simp only [List.getElem?_toArray, List.append_assoc]
    by_cases h1 : i < off
    · rw [List.getElem?_append_left (by simp; omega), List.getElem?_take, if_pos h1, if_neg (by omega)]
      simpa using hci
    · rw [List.getElem?_append_right (by simp; omega)]
      have hl2 : (cur.toList.take off).length = off := by simp; omega
      rw [hl2]
      by_cases h2 : i < off + n
      · rw [List.getElem?_append_left (by rw [hlen]; omega), List.getElem?_map, List.getElem?_range (by omega), if_pos (by omega)]
        rfl
      · rw [List.getElem?_append_right (by rw [hlen]; omega), hlen, List.getElem?_drop, if_neg (by omega), show off + n + (i - off - n) = i by omega]
        simpa using hci
end Go.Proofs.YtdklaeppcjopoaaGreat

/- run.New: what is behind the composite. -/
namespace Go.Proofs.YtdklaeppcjopoaaGreat
open Go.RowKit
set_option linter.unusedVariables false

/-- what of a body begins at a region -/
def codeFrom1 (k : Nat) : Code → Option Code
  | .seq (.region i o d) b => if i = k then some b else codeFrom1 k b
  | .seq a b => match codeFrom1 k a with
    | some c => some c
    | none => codeFrom1 k b
  | .block _ c => codeFrom1 k c
  | .scope c => codeFrom1 k c
  | .cond _ a b => match codeFrom1 k a with
    | some c => some c
    | none => codeFrom1 k b
  | _ => none
noncomputable def newEnd1 : Code := (Tryz.f18.body.bind (codeFrom1 12)).getD .skip
set_option maxRecDepth 100000 in
set_option maxHeartbeats 4000000 in
theorem new_end1 {Post : Ending → World → Prop} (cn cap b0 N M : Nat) (ao : Option Addr) (en Z S4 : Int) (R : Nat → Int) (W : World)
    (hT : W.cell? ⟨b0, 0, none⟩ = some (.int .i64 1)) (hheap : W.heap[N]? = some (.cells #[.slice ao cn cap, .int .u64 en, .int .u64 (R 0), .int .u64 (R 1), .int .u64 (R 2), .int .u64 (R 3), .int .u64 (R 4), .int .u64 (R 5), .int .u64 (R 6), .int .u64 (R 7), .int .u64 (R 8), .int .u64 (R 9), .int .u64 (R 10), .int .u64 (R 11), .int .u64 (R 12), .int .u64 (R 13), .int .u64 (R 14), .int .u64 (R 15), .pointer (some ⟨M, 0, none⟩), .int .u64 Z, .int .u64 S4, .int .i64 0, .int .i64 0] 81 (0, 0)))
    (HP : Hid (Post (.returned (.tuple #[.pointer (some ⟨W.heap.size + 1, 0, none⟩), .int .i64 0])) ((W.alloc (Obj.cells #[.slice ao cn cap, .int .u64 en, .int .u64 (R 0), .int .u64 (R 1), .int .u64 (R 2), .int .u64 (R 3), .int .u64 (R 4), .int .u64 (R 5), .int .u64 (R 6), .int .u64 (R 7), .int .u64 (R 8), .int .u64 (R 9), .int .u64 (R 10), .int .u64 (R 11), .int .u64 (R 12), .int .u64 (R 13), .int .u64 (R 14), .int .u64 (R 15), .pointer (some ⟨M, 0, none⟩), .int .u64 Z, .int .u64 S4, .int .i64 0, .int .i64 0] 115)).alloc (Obj.cells #[.iface 113 (.pointer (some ⟨W.heap.size, 0, none⟩))] 77)))) (x0 x1 x2 x4 x5 x6 x7 x8 x9 x10 x12 x13 x14 x15 x16 x17 x18 x19 x20 x21 x22 x23 x24 x25 x26 x27 x28 x29 x30 x31 x32 x33 x34 x35 x36 x37 x38 x39 x40 x41 x42 x43 x44 x45 x46 x47 x48 x49 x50 x51 x52 x53 x54 x55 x56 x57 x58 x59 x60 x61 x62 x63 x64 x65 x66 x67 x68 x69 x70 x71 x72 x73 x74 x75 x76 x77 x78 x79 x80 x81 x82 : Value) :
    Code.wp Tryz.prog newEnd1 (bodyPost Tryz.prog Tryz.f18 Post) ⟨#[x0, x1, x2, .pointer (some ⟨b0, 0, none⟩), x4, x5, x6, x7, x8, x9, x10, .pointer (some ⟨N, 0, none⟩), x12, x13, x14, x15, x16, x17, x18, x19, x20, x21, x22, x23, x24, x25, x26, x27, x28, x29, x30, x31, x32, x33, x34, x35, x36, x37, x38, x39, x40, x41, x42, x43, x44, x45, x46, x47, x48, x49, x50, x51, x52, x53, x54, x55, x56, x57, x58, x59, x60, x61, x62, x63, x64, x65, x66, x67, x68, x69, x70, x71, x72, x73, x74, x75, x76, x77, x78, x79, x80, x81, x82], []⟩ W := by
  conv => arg 2; whnf
  refine wp_seq_k (fun K0 hK => ?_)
  have HK0 : Hid _ := hK
  clear hK
  refine wp_seq_k (fun K1 hK => ?_)
  have HK1 : Hid _ := hK
  clear hK
  go_wp2
  refine HK1.out _ _ ?_
  refine wp_cond_true rfl ?_
  refine wp_seq_k (fun K2 hK => ?_)
  have HK2 : Hid _ := hK
  clear hK
  refine wp_region_lit ?_
  refine wpList_load_row rfl _ _ rfl N rfl 81 _ (0, 0) _ hheap Tryz.underlying81 rfl (by kernel_rfl) ?_
  go_wp2
  refine HK2.out _ _ ?_
  go_wp2
  exact HP.out
end Go.Proofs.YtdklaeppcjopoaaGreat

/- run.New: what is behind the composite. -/
namespace Go.Proofs.YtdklaeppcjopoaaGreat
open Go.RowKit
set_option linter.unusedVariables false

/-- what of a body begins at a region -/
def codeFrom2 (k : Nat) : Code → Option Code
  | .seq (.region i o d) b => if i = k then some b else codeFrom2 k b
  | .seq a b => match codeFrom2 k a with
    | some c => some c
    | none => codeFrom2 k b
  | .block _ c => codeFrom2 k c
  | .scope c => codeFrom2 k c
  | .cond _ a b => match codeFrom2 k a with
    | some c => some c
    | none => codeFrom2 k b
  | _ => none
noncomputable def newEnd2 : Code := (Tryz.f18.body.bind (codeFrom2 12)).getD .skip
set_option maxRecDepth 100000 in
set_option maxHeartbeats 4000000 in
theorem new_end2 {Post : Ending → World → Prop} (cn cap b0 N M : Nat) (ao : Option Addr) (en Z S4 : Int) (R : Nat → Int) (W : World)
    (hT : W.cell? ⟨b0, 0, none⟩ = some (.int .i64 2)) (hheap : W.heap[N]? = some (.cells #[.slice ao cn cap, .int .u64 en, .int .u64 (R 0), .int .u64 (R 1), .int .u64 (R 2), .int .u64 (R 3), .int .u64 (R 4), .int .u64 (R 5), .int .u64 (R 6), .int .u64 (R 7), .int .u64 (R 8), .int .u64 (R 9), .int .u64 (R 10), .int .u64 (R 11), .int .u64 (R 12), .int .u64 (R 13), .int .u64 (R 14), .int .u64 (R 15), .pointer (some ⟨M, 0, none⟩), .int .u64 Z, .int .u64 S4, .int .i64 0, .int .i64 0] 81 (0, 0)))
    (HP : Hid (Post (.returned (.tuple #[.pointer (some ⟨W.heap.size + 1, 0, none⟩), .int .i64 0])) ((W.alloc (Obj.cells #[.slice ao cn cap, .int .u64 en, .int .u64 (R 0), .int .u64 (R 1), .int .u64 (R 2), .int .u64 (R 3), .int .u64 (R 4), .int .u64 (R 5), .int .u64 (R 6), .int .u64 (R 7), .int .u64 (R 8), .int .u64 (R 9), .int .u64 (R 10), .int .u64 (R 11), .int .u64 (R 12), .int .u64 (R 13), .int .u64 (R 14), .int .u64 (R 15), .pointer (some ⟨M, 0, none⟩), .int .u64 Z, .int .u64 S4, .int .i64 0, .int .i64 0, .int .i64 0, .int .u64 0, .int .u64 0] 120)).alloc (Obj.cells #[.iface 116 (.pointer (some ⟨W.heap.size, 0, none⟩))] 77)))) (x0 x1 x2 x4 x5 x6 x7 x8 x9 x10 x12 x13 x14 x15 x16 x17 x18 x19 x20 x21 x22 x23 x24 x25 x26 x27 x28 x29 x30 x31 x32 x33 x34 x35 x36 x37 x38 x39 x40 x41 x42 x43 x44 x45 x46 x47 x48 x49 x50 x51 x52 x53 x54 x55 x56 x57 x58 x59 x60 x61 x62 x63 x64 x65 x66 x67 x68 x69 x70 x71 x72 x73 x74 x75 x76 x77 x78 x79 x80 x81 x82 : Value) :
    Code.wp Tryz.prog newEnd2 (bodyPost Tryz.prog Tryz.f18 Post) ⟨#[x0, x1, x2, .pointer (some ⟨b0, 0, none⟩), x4, x5, x6, x7, x8, x9, x10, .pointer (some ⟨N, 0, none⟩), x12, x13, x14, x15, x16, x17, x18, x19, x20, x21, x22, x23, x24, x25, x26, x27, x28, x29, x30, x31, x32, x33, x34, x35, x36, x37, x38, x39, x40, x41, x42, x43, x44, x45, x46, x47, x48, x49, x50, x51, x52, x53, x54, x55, x56, x57, x58, x59, x60, x61, x62, x63, x64, x65, x66, x67, x68, x69, x70, x71, x72, x73, x74, x75, x76, x77, x78, x79, x80, x81, x82], []⟩ W := by
  conv => arg 2; whnf
  refine wp_seq_k (fun K0 hK => ?_)
  have HK0 : Hid _ := hK
  clear hK
  refine wp_seq_k (fun K1 hK => ?_)
  have HK1 : Hid _ := hK
  clear hK
  go_wp2
  refine HK1.out _ _ ?_
  refine wp_cond_false rfl ?_
  go_wp2
  refine HK0.out _ _ ?_
  refine wp_seq_k (fun K2 hK => ?_)
  have HK2 : Hid _ := hK
  clear hK
  refine wp_region_lit ?_
  refine wpList_load_row rfl _ _ rfl N rfl 81 _ (0, 0) _ hheap Tryz.underlying81 rfl (by kernel_rfl) ?_
  go_wp2
  refine HK2.out _ _ ?_
  go_wp2
  exact HP.out
end Go.Proofs.YtdklaeppcjopoaaGreat

/- run.New: what is behind the composite. -/
namespace Go.Proofs.YtdklaeppcjopoaaGreat
open Go.RowKit
set_option linter.unusedVariables false

noncomputable def newRest : Code := (Tryz.f18.body.bind (codeFrom1 8)).getD .skip
set_option maxRecDepth 100000 in
set_option maxHeartbeats 4000000 in
theorem new_rest1 {Post : Ending → World → Prop} (S an ac dn cn cap b0 N M : Nat) (aa ao : Option Addr) (en Z : Int) (zb : Bool) (R : Nat → Int) (W5 W8 : World) (v17 : Value) (s1 : (8192 : Int) ≤ S) (s2 : (S : Int) ≤ 1048576) (hd3 : (dn : Int) ≤ 1048576)
    (HPr : Hid (∀ W, Calls Tryz.prog 50 #[.int .u64 (4096 + (dn : Int))] W fun r w' => r = .returned (.tuple #[.int .u64 Z, .bool zb]) ∧ w' = W))
    (hcopy : (Builtin.copy_ #[28, 28] 3 #[.slice (some ⟨N, 2, none⟩) 16 16, .slice aa an ac]).run Tryz.prog ((W5.setCell ⟨N, 19, none⟩ (.int .u64 Z)).setCell ⟨N, 20, none⟩ (.int .u64 ((S : Int) - 4096))) = .ok (goInt an) W8)
    (c17 : W8.cell? ⟨N, 17, none⟩ = some v17) (f8 : W8.frozen? ⟨N, 17, none⟩ = false) (c19 : W5.cell? ⟨N, 19, none⟩ = some (.int .u64 0)) (c20 : W5.cell? ⟨N, 20, none⟩ = some (.int .u64 0)) (f5 : W5.frozen? ⟨N, 19, none⟩ = false) (f6 : W5.frozen? ⟨N, 20, none⟩ = false)
    (HT : Hid ((W8.setCell ⟨N, 17, none⟩ (.int .u64 (S : Int))).cell? ⟨b0, 0, none⟩ = some (.int .i64 1))) (HH : Hid ((W8.setCell ⟨N, 17, none⟩ (.int .u64 (S : Int))).heap[N]? = some (.cells #[.slice ao cn cap, .int .u64 en, .int .u64 (R 0), .int .u64 (R 1), .int .u64 (R 2), .int .u64 (R 3), .int .u64 (R 4), .int .u64 (R 5), .int .u64 (R 6), .int .u64 (R 7), .int .u64 (R 8), .int .u64 (R 9), .int .u64 (R 10), .int .u64 (R 11), .int .u64 (R 12), .int .u64 (R 13), .int .u64 (R 14), .int .u64 (R 15), .pointer (some ⟨M, 0, none⟩), .int .u64 Z, .int .u64 ((S : Int) - 4096), .int .i64 0, .int .i64 0] 81 (0, 0))))
    (HP : Hid (Post (.returned (.tuple #[.pointer (some ⟨(W8.setCell ⟨N, 17, none⟩ (.int .u64 (S : Int))).heap.size + 1, 0, none⟩), .int .i64 0])) (((W8.setCell ⟨N, 17, none⟩ (.int .u64 (S : Int))).alloc (Obj.cells #[.slice ao cn cap, .int .u64 en, .int .u64 (R 0), .int .u64 (R 1), .int .u64 (R 2), .int .u64 (R 3), .int .u64 (R 4), .int .u64 (R 5), .int .u64 (R 6), .int .u64 (R 7), .int .u64 (R 8), .int .u64 (R 9), .int .u64 (R 10), .int .u64 (R 11), .int .u64 (R 12), .int .u64 (R 13), .int .u64 (R 14), .int .u64 (R 15), .pointer (some ⟨M, 0, none⟩), .int .u64 Z, .int .u64 ((S : Int) - 4096), .int .i64 0, .int .i64 0] 115)).alloc (Obj.cells #[.iface 113 (.pointer (some ⟨(W8.setCell ⟨N, 17, none⟩ (.int .u64 (S : Int))).heap.size, 0, none⟩))] 77)))) (x0 x4 x5 x6 x7 x8 x9 x12 x13 x14 x15 x16 x17 x18 x19 x20 x21 x22 x23 x24 x25 x26 x27 x28 x29 x30 x31 x32 x33 x34 x35 x36 x37 x38 x39 x40 x41 x42 x43 x44 x45 x46 x47 x48 x49 x50 x51 x52 x53 x54 x55 x56 x57 x58 x59 x60 x61 x62 x63 x64 x65 x66 x67 x68 x69 x70 x71 x72 x73 x74 x75 x76 x77 x78 x79 x80 x81 x82 : Value) :
    Code.wp Tryz.prog newRest (bodyPost Tryz.prog Tryz.f18 Post) ⟨#[x0, .int .i64 (S : Int), .slice aa an ac, .pointer (some ⟨b0, 0, none⟩), x4, x5, x6, x7, x8, x9, .int .i64 (4096 + (dn : Int)), .pointer (some ⟨N, 0, none⟩), x12, x13, x14, x15, x16, x17, x18, x19, x20, x21, x22, x23, x24, x25, x26, x27, x28, x29, x30, x31, x32, x33, x34, x35, x36, x37, x38, x39, x40, x41, x42, x43, x44, x45, x46, x47, x48, x49, x50, x51, x52, x53, x54, x55, x56, x57, x58, x59, x60, x61, x62, x63, x64, x65, x66, x67, x68, x69, x70, x71, x72, x73, x74, x75, x76, x77, x78, x79, x80, x81, x82], []⟩ W5 := by
  conv => arg 2; whnf
  refine wp_seq_k (fun K hK => ?_)
  have HK : Hid _ := hK
  clear hK
  go_wp2_with (go_at_call 50; refine (HPr.out _).mono ?_; rintro r w9 ⟨rfl, rfl⟩)
  refine HK.out _ _ ?_
  clear HK
  refine wp_seq_k (fun K hK => ?_)
  have HK : Hid _ := hK
  clear hK
  go_wp2_with (go_at_call 50; refine (HPr.out _).mono ?_; rintro r w9 ⟨rfl, rfl⟩)
  refine HK.out _ _ ?_
  clear HK
  refine wp_seq_k (fun K hK => ?_)
  have HK : Hid _ := hK
  clear hK
  go_wp2_with (go_at_call 50; refine (HPr.out _).mono ?_; rintro r w9 ⟨rfl, rfl⟩)
  refine HK.out _ _ ?_
  clear HK
  refine wp_seq_k (fun K hK => ?_)
  have HK : Hid _ := hK
  clear hK
  go_wp2_with (go_at_call 50; refine (HPr.out _).mono ?_; rintro r w9 ⟨rfl, rfl⟩)
  refine HK.out _ _ ?_
  clear HK
  exact new_end1 cn cap b0 N M ao en Z ((S : Int) - 4096) R _ HT.out HH.out HP _ _ _ _ _ _ _ _ _ _ _ _ _ _ _ _ _ _ _ _ _ _ _ _ _ _ _ _ _ _ _ _ _ _ _ _ _ _ _ _ _ _ _ _ _ _ _ _ _ _ _ _ _ _ _ _ _ _ _ _ _ _ _ _ _ _ _ _ _ _ _ _ _ _ _ _ _ _ _ _ _
set_option maxRecDepth 100000 in
set_option maxHeartbeats 4000000 in
theorem new_rest2 {Post : Ending → World → Prop} (S an ac dn cn cap b0 N M : Nat) (aa ao : Option Addr) (en Z : Int) (zb : Bool) (R : Nat → Int) (W5 W8 : World) (v17 : Value) (s1 : (8192 : Int) ≤ S) (s2 : (S : Int) ≤ 1048576) (hd3 : (dn : Int) ≤ 1048576)
    (HPr : Hid (∀ W, Calls Tryz.prog 50 #[.int .u64 (4096 + (dn : Int))] W fun r w' => r = .returned (.tuple #[.int .u64 Z, .bool zb]) ∧ w' = W))
    (hcopy : (Builtin.copy_ #[28, 28] 3 #[.slice (some ⟨N, 2, none⟩) 16 16, .slice aa an ac]).run Tryz.prog ((W5.setCell ⟨N, 19, none⟩ (.int .u64 Z)).setCell ⟨N, 20, none⟩ (.int .u64 ((S : Int) - 4096))) = .ok (goInt an) W8)
    (c17 : W8.cell? ⟨N, 17, none⟩ = some v17) (f8 : W8.frozen? ⟨N, 17, none⟩ = false) (c19 : W5.cell? ⟨N, 19, none⟩ = some (.int .u64 0)) (c20 : W5.cell? ⟨N, 20, none⟩ = some (.int .u64 0)) (f5 : W5.frozen? ⟨N, 19, none⟩ = false) (f6 : W5.frozen? ⟨N, 20, none⟩ = false)
    (HT : Hid ((W8.setCell ⟨N, 17, none⟩ (.int .u64 (S : Int))).cell? ⟨b0, 0, none⟩ = some (.int .i64 2))) (HH : Hid ((W8.setCell ⟨N, 17, none⟩ (.int .u64 (S : Int))).heap[N]? = some (.cells #[.slice ao cn cap, .int .u64 en, .int .u64 (R 0), .int .u64 (R 1), .int .u64 (R 2), .int .u64 (R 3), .int .u64 (R 4), .int .u64 (R 5), .int .u64 (R 6), .int .u64 (R 7), .int .u64 (R 8), .int .u64 (R 9), .int .u64 (R 10), .int .u64 (R 11), .int .u64 (R 12), .int .u64 (R 13), .int .u64 (R 14), .int .u64 (R 15), .pointer (some ⟨M, 0, none⟩), .int .u64 Z, .int .u64 ((S : Int) - 4096), .int .i64 0, .int .i64 0] 81 (0, 0))))
    (HP : Hid (Post (.returned (.tuple #[.pointer (some ⟨(W8.setCell ⟨N, 17, none⟩ (.int .u64 (S : Int))).heap.size + 1, 0, none⟩), .int .i64 0])) (((W8.setCell ⟨N, 17, none⟩ (.int .u64 (S : Int))).alloc (Obj.cells #[.slice ao cn cap, .int .u64 en, .int .u64 (R 0), .int .u64 (R 1), .int .u64 (R 2), .int .u64 (R 3), .int .u64 (R 4), .int .u64 (R 5), .int .u64 (R 6), .int .u64 (R 7), .int .u64 (R 8), .int .u64 (R 9), .int .u64 (R 10), .int .u64 (R 11), .int .u64 (R 12), .int .u64 (R 13), .int .u64 (R 14), .int .u64 (R 15), .pointer (some ⟨M, 0, none⟩), .int .u64 Z, .int .u64 ((S : Int) - 4096), .int .i64 0, .int .i64 0, .int .i64 0, .int .u64 0, .int .u64 0] 120)).alloc (Obj.cells #[.iface 116 (.pointer (some ⟨(W8.setCell ⟨N, 17, none⟩ (.int .u64 (S : Int))).heap.size, 0, none⟩))] 77)))) (x0 x4 x5 x6 x7 x8 x9 x12 x13 x14 x15 x16 x17 x18 x19 x20 x21 x22 x23 x24 x25 x26 x27 x28 x29 x30 x31 x32 x33 x34 x35 x36 x37 x38 x39 x40 x41 x42 x43 x44 x45 x46 x47 x48 x49 x50 x51 x52 x53 x54 x55 x56 x57 x58 x59 x60 x61 x62 x63 x64 x65 x66 x67 x68 x69 x70 x71 x72 x73 x74 x75 x76 x77 x78 x79 x80 x81 x82 : Value) :
    Code.wp Tryz.prog newRest (bodyPost Tryz.prog Tryz.f18 Post) ⟨#[x0, .int .i64 (S : Int), .slice aa an ac, .pointer (some ⟨b0, 0, none⟩), x4, x5, x6, x7, x8, x9, .int .i64 (4096 + (dn : Int)), .pointer (some ⟨N, 0, none⟩), x12, x13, x14, x15, x16, x17, x18, x19, x20, x21, x22, x23, x24, x25, x26, x27, x28, x29, x30, x31, x32, x33, x34, x35, x36, x37, x38, x39, x40, x41, x42, x43, x44, x45, x46, x47, x48, x49, x50, x51, x52, x53, x54, x55, x56, x57, x58, x59, x60, x61, x62, x63, x64, x65, x66, x67, x68, x69, x70, x71, x72, x73, x74, x75, x76, x77, x78, x79, x80, x81, x82], []⟩ W5 := by
  conv => arg 2; whnf
  refine wp_seq_k (fun K hK => ?_)
  have HK : Hid _ := hK
  clear hK
  go_wp2_with (go_at_call 50; refine (HPr.out _).mono ?_; rintro r w9 ⟨rfl, rfl⟩)
  refine HK.out _ _ ?_
  clear HK
  refine wp_seq_k (fun K hK => ?_)
  have HK : Hid _ := hK
  clear hK
  go_wp2_with (go_at_call 50; refine (HPr.out _).mono ?_; rintro r w9 ⟨rfl, rfl⟩)
  refine HK.out _ _ ?_
  clear HK
  refine wp_seq_k (fun K hK => ?_)
  have HK : Hid _ := hK
  clear hK
  go_wp2_with (go_at_call 50; refine (HPr.out _).mono ?_; rintro r w9 ⟨rfl, rfl⟩)
  refine HK.out _ _ ?_
  clear HK
  refine wp_seq_k (fun K hK => ?_)
  have HK : Hid _ := hK
  clear hK
  go_wp2_with (go_at_call 50; refine (HPr.out _).mono ?_; rintro r w9 ⟨rfl, rfl⟩)
  refine HK.out _ _ ?_
  clear HK
  exact new_end2 cn cap b0 N M ao en Z ((S : Int) - 4096) R _ HT.out HH.out HP _ _ _ _ _ _ _ _ _ _ _ _ _ _ _ _ _ _ _ _ _ _ _ _ _ _ _ _ _ _ _ _ _ _ _ _ _ _ _ _ _ _ _ _ _ _ _ _ _ _ _ _ _ _ _ _ _ _ _ _ _ _ _ _ _ _ _ _ _ _ _ _ _ _ _ _ _ _ _ _ _
end Go.Proofs.YtdklaeppcjopoaaGreat

/- run.New: a machine that has just been made. -/
namespace Go.Proofs.YtdklaeppcjopoaaGreat
open Go.RowKit
set_option linter.unusedVariables false

/-- a row of which each cell is known, as a literal -/
theorem row_lit {w : World} {N n : Nat} {t : TypeId} (xs : Array Value) (hn : xs.size = n) (h : w.rowIs N t n (fun i => xs.getD i undef)) : w.heap[N]? = some (.cells xs t (0, 0)) := by
  obtain ⟨cur, h1, h2, h3⟩ := h
  have e : cur = xs := by
    apply Array.ext
    · omega
    · intro i ha hb
      have h4 := h3 i (by omega)
      rw [Array.getElem?_eq_getElem ha] at h4
      injection h4 with h4
      rw [h4]
      simp [Array.getD, hb]
  rw [← e]
  exact h1
theorem fresh_row1 (h : Pd) (s : Ru.St) (ht : h.t = 1) (W : World) (R : Nat → Int) (pl Z e n k x y : Int) (hR : ∀ i, R i = s.r i) (hp : pl = Ru.wr s.pl) (hZ : Z = s.hp) (he : e = s.e) (hn : n = s.n) (hk : k = s.k) (hx : x = s.x) (hy : y = s.y) :
    (W.alloc (Obj.cells #[.slice h.ao h.N h.cap, .int .u64 pl, .int .u64 (R 0), .int .u64 (R 1), .int .u64 (R 2), .int .u64 (R 3), .int .u64 (R 4), .int .u64 (R 5), .int .u64 (R 6), .int .u64 (R 7), .int .u64 (R 8), .int .u64 (R 9), .int .u64 (R 10), .int .u64 (R 11), .int .u64 (R 12), .int .u64 (R 13), .int .u64 (R 14), .int .u64 (R 15), .pointer (some ⟨h.M, 0, none⟩), .int .u64 Z, .int .u64 ((h.S : Int) - 4096), .int .i64 e, .int .i64 n] 115)).rowIs W.heap.size h.ty h.n (h.fld s) := by
  obtain rfl : R = s.r := funext hR
  subst hp hZ he hn hk hx hy
  have e1 : h.ty = 115 := by unfold Pd.ty; rw [ht]; rfl
  have e2 : h.n = 23 := by unfold Pd.n; rw [ht]; rfl
  rw [e1, e2]
  refine World.rowIs_alloc W _ _ _ (fun i hi => ?_)
  have hj : i = 0 ∨ i = 1 ∨ i = 2 ∨ i = 3 ∨ i = 4 ∨ i = 5 ∨ i = 6 ∨ i = 7 ∨ i = 8 ∨ i = 9 ∨ i = 10 ∨ i = 11 ∨ i = 12 ∨ i = 13 ∨ i = 14 ∨ i = 15 ∨ i = 16 ∨ i = 17 ∨ i = 18 ∨ i = 19 ∨ i = 20 ∨ i = 21 ∨ i = 22 := by
    have : i < 23 := hi
    omega
  rcases hj with rfl | rfl | rfl | rfl | rfl | rfl | rfl | rfl | rfl | rfl | rfl | rfl | rfl | rfl | rfl | rfl | rfl | rfl | rfl | rfl | rfl | rfl | rfl <;> rfl
theorem fresh_row2 (h : Pd) (s : Ru.St) (ht : h.t = 2) (W : World) (R : Nat → Int) (pl Z e n k x y : Int) (hR : ∀ i, R i = s.r i) (hp : pl = Ru.wr s.pl) (hZ : Z = s.hp) (he : e = s.e) (hn : n = s.n) (hk : k = s.k) (hx : x = s.x) (hy : y = s.y) :
    (W.alloc (Obj.cells #[.slice h.ao h.N h.cap, .int .u64 pl, .int .u64 (R 0), .int .u64 (R 1), .int .u64 (R 2), .int .u64 (R 3), .int .u64 (R 4), .int .u64 (R 5), .int .u64 (R 6), .int .u64 (R 7), .int .u64 (R 8), .int .u64 (R 9), .int .u64 (R 10), .int .u64 (R 11), .int .u64 (R 12), .int .u64 (R 13), .int .u64 (R 14), .int .u64 (R 15), .pointer (some ⟨h.M, 0, none⟩), .int .u64 Z, .int .u64 ((h.S : Int) - 4096), .int .i64 e, .int .i64 n, .int .i64 k, .int .u64 x, .int .u64 y] 120)).rowIs W.heap.size h.ty h.n (h.fld s) := by
  obtain rfl : R = s.r := funext hR
  subst hp hZ he hn hk hx hy
  have e1 : h.ty = 120 := by unfold Pd.ty; rw [ht]; rfl
  have e2 : h.n = 26 := by unfold Pd.n; rw [ht]; rfl
  rw [e1, e2]
  refine World.rowIs_alloc W _ _ _ (fun i hi => ?_)
  have hj : i = 0 ∨ i = 1 ∨ i = 2 ∨ i = 3 ∨ i = 4 ∨ i = 5 ∨ i = 6 ∨ i = 7 ∨ i = 8 ∨ i = 9 ∨ i = 10 ∨ i = 11 ∨ i = 12 ∨ i = 13 ∨ i = 14 ∨ i = 15 ∨ i = 16 ∨ i = 17 ∨ i = 18 ∨ i = 19 ∨ i = 20 ∨ i = 21 ∨ i = 22 ∨ i = 23 ∨ i = 24 ∨ i = 25 := by
    have : i < 26 := hi
    omega
  rcases hj with rfl | rfl | rfl | rfl | rfl | rfl | rfl | rfl | rfl | rfl | rfl | rfl | rfl | rfl | rfl | rfl | rfl | rfl | rfl | rfl | rfl | rfl | rfl | rfl | rfl | rfl <;> rfl
end Go.Proofs.YtdklaeppcjopoaaGreat
