/- A region that draws its order: its head is quiet over a class of worlds and its tail forced; or one of its calls panics, whatever came ahead of it. -/
import Derived.Test.YtbpdggdpgohilaaG1
namespace Go.Proofs.Ytbpdggdpgohilaa
open Go.RowKit
set_option linter.unusedVariables false

section
variable {P : Program} {ops : Array Oper} {md : Region.Mode} {C : World → Prop}

/-- from here on: so many operations, each of them one of the first n, each quiet; then L -/
def headQ (P : Program) (md : Region.Mode) (ops : Array Oper) (C : World → Prop) (n : Nat) (L : Array Bool → Act → Prop) : Nat → Array Bool → Act → Prop
  | 0, listed, a => L listed a
  | f + 1, listed, a => Region.ready md ops listed ≠ [] ∧ ∀ i ∈ Region.ready md ops listed, i < n ∧ qOp P ops C i (headQ P md ops C n L f (listed.setIfInBounds i true)) a

theorem any_of_headQ {n g : Nat} {L : Array Bool → Act → Prop} {Q' : Exit → Act → World → Prop} (hL : ∀ listed a w, C w → L listed a → wpAny P md ops Q' g listed a w) (f : Nat) :
    ∀ (listed : Array Bool) (a : Act) (w : World), C w → headQ P md ops C n L f listed a → wpAny P md ops Q' (f + g) listed a w := by
  induction f with
  | zero => intro listed a w hw h; rw [Nat.zero_add]; exact hL _ _ _ hw h
  | succ f ih =>
    intro listed a w hw h
    rw [Nat.add_right_comm]
    exact ⟨fun h0 => absurd h0 h.1, fun i hi => wpOp_of_qOp hw (fun a' w' hw' h' => ih _ a' w' hw' h') (h.2 i hi).2⟩

theorem headQ_take {n i : Nat} {oi : Oper} {v : Value} {L : Array Bool → Act → Prop} (hi : ops[i]? = some oi) (hsel : ∀ (j : Nat) (o : Oper) cs b, ops[j]? = some o → o.op ≠ .select cs b)
    (hs : Region.sinkB md ops n = true) (hc : Region.chainB md ops n = true) (hn : n < ops.size) (hin : i < n) (hdone : ∀ listed a, L listed a → ∀ j ∈ Region.ready md ops listed, n ≤ j) (f : Nat) :
    ∀ (listed : Array Bool) (a : Act), HeadInv md ops n listed →
      (∀ j oj, ops[j]? = some oj → j ≠ i → listed.getD j true = false → (∀ e ∈ oj.after, Region.binds md e = true → e.on ≠ i) → oi.apart ops oj = true) →
      i ∈ Region.ready md ops listed → YieldsIn P ops C oi v a →
      headQ P md ops C n L f (listed.setIfInBounds i true) (a.put oi.dst v) → headQ P md ops C n L (f + 1) listed a := by
  induction f with
  | zero =>
    intro listed a inv hfree hr hy H
    refine ⟨List.ne_nil_of_mem hr, fun j hj => ?_⟩
    have hjn : j < n := Nat.lt_of_not_le fun h => tail_waits hs hc hn inv _ i rfl hin (mem_ready.1 hr).1 j h hj
    by_cases hji : j = i
    · subst hji; exact ⟨hjn, hy.qOp hi H⟩
    · exact absurd (hdone _ _ H j (ready_mono hj hji)) (by omega)
  | succ f ih =>
    intro listed a inv hfree hr hy H
    refine ⟨List.ne_nil_of_mem hr, fun j hj => ?_⟩
    have hun := (mem_ready.1 hr).1
    have hjn : j < n := Nat.lt_of_not_le fun h => tail_waits hs hc hn inv _ i rfl hin hun j h hj
    refine ⟨hjn, ?_⟩
    by_cases hji : j = i
    · subst hji; exact hy.qOp hi H
    · obtain ⟨hjun, oj, hoj, hall⟩ := mem_ready.1 hj
      have hnot : ∀ e ∈ oj.after, Region.binds md e = true → e.on ≠ i := fun e he hb heq => by
        have h1 := hall e he hb
        rw [heq, getD_both hun] at h1
        cases h1
      have h2 := qOp_put hoj (hfree j oj hoj hji hjun hnot) (fun cs b => hsel i oi cs b hi) (fun cs b => hsel j oj cs b hoj) hy (H.2 j (ready_mono hj hji)).2
      refine qOp_mono (fun a' h3 => ih (listed.setIfInBounds j true) a' (inv.set hj hjn) (fun k ok hk hki hun' hno => ?_) (ready_mono hr (Ne.symm hji)) h3.1 ?_) h2
      · refine hfree k ok hk hki ?_ hno
        by_cases hjk : j = k
        · subst hjk; exact hjun
        · rw [getD_set_ne true hjk] at hun'; exact hun'
      · rw [Array.setIfInBounds_comm _ _ hji]
        exact h3.2

theorem headQ_lex {n g : Nat} {Lq : Act → Prop} (hsel : Region.noSelect ops = true) (hs : Region.sinkB md ops n = true) (hc : Region.chainB md ops n = true) (hn : n < ops.size) :
    ∀ (l : List Oper) (k : Nat) (listed : Array Bool) (a : Act), (∀ j, j < l.length → l[j]? = ops[k + j]?) → k + l.length = n → HeadInv md ops n listed →
    Region.lexHead md ops g l.length k listed = true → wpQuiet P ops C Lq l a →
    headQ P md ops C n (fun listed' a' => Region.seqB md ops g n listed' = true ∧ Lq a') l.length listed a := by
  intro l
  induction l with
  | nil =>
    intro k listed a _ hk _ hB h
    obtain rfl : k = n := by simpa using hk
    exact ⟨by simpa [Region.lexHead] using hB, h⟩
  | cons o l ih =>
    intro k listed a hl hk inv hB h
    have h0 : ops[k]? = some o := by simpa using (hl 0 (by simp)).symm
    simp only [List.length_cons, Region.lexHead, Bool.and_eq_true] at hB
    obtain ⟨⟨hr, hf⟩, hB'⟩ := hB
    simp only [List.length_cons] at hk
    have hr' : k ∈ Region.ready md ops listed := by simpa using hr
    obtain ⟨v, hy, hK⟩ := yieldsIn_of_qOp (K := wpQuiet P ops C Lq l) (C := C) h0 (by unfold qOp; simp only [h0]; exact h)
    refine headQ_take h0 (Region.noSelect_spec hsel) hs hc hn (by omega) (fun listed' a' hL => seqB_ready hL.1) l.length listed a inv (Region.free_spec h0 hf) hr' hy ?_
    exact ih (k + 1) _ _ (fun j hj => by have := hl (j + 1) (by simp; omega); simpa [Nat.add_assoc, Nat.add_comm 1 j] using this) (by omega) (inv.set hr' (by omega)) hB' hK

/-- the head quiet over a class, the tail forced -/
theorem tail_class {id : Nat} {Q : Exit → Act → World → Prop} {a : Act} {w : World} {l : List Oper} (C : World → Prop) (n : Nat) (hm : P.follows .mixedOrders = true) (hB : Region.lexTailB .any l.toArray n = true) (hC : C w.drew)
    (h : wpQuiet P l.toArray C (fun a' => ∀ w', C w' → wpList P l.toArray Q (l.drop n) a' w') (l.take n) a) : (Code.region id l.toArray true).wp P Q a w := by
  simp only [Region.lexTailB, Bool.and_eq_true, decide_eq_true_eq] at hB
  obtain ⟨⟨⟨⟨hsel, hn⟩, hs⟩, hc⟩, hlex⟩ := hB
  have hn' : n < l.length := by simpa using hn
  have htl : (l.take n).length = n := by simp; omega
  have hdl : (l.drop n).length = l.toArray.size - n := by simp
  have inv0 : HeadInv .any l.toArray n (Array.replicate l.toArray.size false) :=
    ⟨by simp, fun j oj _ hl => (by rw [getD_replicate_false] at hl; cases hl), fun t _ ht => getD_in (by simpa using ht) (getD_replicate_false _ _)⟩
  have H := headQ_lex (md := .any) (g := l.toArray.size - n) hsel hs hc hn (l.take n) 0 _ a (fun j hj => by
    have hj' : j < n := by rw [htl] at hj; exact hj
    simp [hj']) (by simpa using htl) inv0 (by rw [htl]; exact hlex) h
  refine wp_region_any hm ?_
  have T := any_of_headQ (Q' := Q) (g := l.toArray.size - n) (fun listed a' w' hw' hL => by
    have := wpAny_of_seq (md := .any) (Q' := Q) (l.drop n) n listed a' w' (fun j => by simp [List.getElem?_drop]) (by rw [hdl]; exact hL.1) (hL.2 w' hw')
    rwa [hdl] at this) _ _ _ _ hC H
  rw [htl, show n + (l.toArray.size - n) = l.toArray.size by omega] at T
  exact T

/-- in this state, in every world of the class, the operation is a call that panics -/
def PanicsIn (P : Program) (ops : Array Oper) (C : World → Prop) (o : Oper) (Z : List PanicEntry → World → Prop) (a : Act) : Prop :=
  Region.wanted o (yielded ops a.tmps) = true ∧ ∀ w, C w → ∃ f args, (execOp a.eval o).run P w = .ok (.enter f args) w ∧ Calls P f args w fun e w' => ∃ ch, e = .panicked ch ∧ Z ch w'

/-- whatever comes up is quiet, or the one that panics -/
def headX (P : Program) (md : Region.Mode) (ops : Array Oper) (C : World → Prop) (p : Nat) (o : Oper) (Z : List PanicEntry → World → Prop) : Nat → Array Bool → Act → Prop
  | 0, listed, a => Region.ready md ops listed = [p] ∧ PanicsIn P ops C o Z a
  | f + 1, listed, a => Region.ready md ops listed ≠ [] ∧ ∀ i ∈ Region.ready md ops listed, (i = p ∧ PanicsIn P ops C o Z a) ∨ qOp P ops C i (headX P md ops C p o Z f (listed.setIfInBounds i true)) a

theorem put_defers (a : Act) (d : Option Tmp) (v : Value) : (a.put d v).defers = a.defers := by cases d <;> rfl

theorem PanicsIn.wpOp {p : Nat} {o : Oper} {Z : List PanicEntry → World → Prop} {a : Act} {w : World} {K : Act → World → Prop} {Q : Exit → Act → World → Prop} (ho : ops[p]? = some o) (hw : C w) (h : PanicsIn P ops C o Z a) (hQ : ∀ ch w', Z ch w' → Q (.panic ch) a w') : wpOp P ops Q p K a w := by
  obtain ⟨h1, h2⟩ := h
  obtain ⟨f, args, h3, h4⟩ := h2 w hw
  unfold Go.wpOp
  simp only [ho, h1, if_true]
  refine .inl ?_
  unfold Oper.wp
  rw [h3, Oper.upon_enter]
  refine h4.mono ?_
  rintro e w' ⟨ch, rfl, hz⟩
  exact hQ ch w' hz

theorem any_of_headX {p : Nat} {o : Oper} {Z : List PanicEntry → World → Prop} {Q : Exit → Act → World → Prop} {d : List Deferred} (ho : ops[p]? = some o) (hQ : ∀ a' ch w', a'.defers = d → Z ch w' → Q (.panic ch) a' w') (f : Nat) :
    ∀ (g : Nat) (listed : Array Bool) (a : Act) (w : World), C w → a.defers = d → f < g → headX P md ops C p o Z f listed a → wpAny P md ops Q g listed a w := by
  induction f with
  | zero =>
    intro g listed a w hw hd hg h
    obtain ⟨g, rfl⟩ : ∃ k, g = k + 1 := ⟨g - 1, by omega⟩
    obtain ⟨h1, h2⟩ := h
    refine ⟨fun h0 => (by rw [h1] at h0; cases h0), fun i hi => ?_⟩
    rw [h1] at hi
    obtain rfl : i = p := by simpa using hi
    exact h2.wpOp ho hw fun ch w' hz => hQ a ch w' hd hz
  | succ f ih =>
    intro g listed a w hw hd hg h
    obtain ⟨g, rfl⟩ : ∃ k, g = k + 1 := ⟨g - 1, by omega⟩
    refine ⟨fun h0 => absurd h0 h.1, fun i hi => ?_⟩
    rcases h.2 i hi with ⟨rfl, hx⟩ | hq
    · exact hx.wpOp ho hw fun ch w' hz => hQ a ch w' hd hz
    · unfold qOp at hq
      unfold wpOp
      split
      · rename_i hn; simp only [hn] at hq; exact ih g _ _ _ hw hd (by omega) hq
      · rename_i oi hoi
        simp only [hoi] at hq
        split
        · rename_i hwa
          simp only [hwa, if_true] at hq
          obtain ⟨v, h1, h2⟩ := hq
          exact .inl (Oper.wp_of_quiet (K := fun a'' => a'' = a.put oi.dst v) hw (fun a'' w' hw' e => by subst e; exact ih g _ _ _ hw' ((put_defers _ _ _).trans hd) (by omega) h2) ⟨v, h1, rfl⟩)
        · rename_i hwa
          simp only [hwa] at hq
          exact ih g _ _ _ hw ((put_defers _ _ _).trans hd) (by omega) hq

theorem PanicsIn.of_put {o oi : Oper} {Z : List PanicEntry → World → Prop} {a : Act} {v : Value} (hap : oi.apart ops o = true) (hsel : ∀ cs b, o.op ≠ .select cs b) (h : PanicsIn P ops C o Z (a.put oi.dst v)) : PanicsIn P ops C o Z a := by
  obtain ⟨h1, h2, h3⟩ := Oper.apart_spec hap
  unfold PanicsIn at *
  rw [wanted_put o a oi.dst v h1, execOp_put o hsel a oi.dst v h1] at h
  exact h

theorem headX_take {p i : Nat} {o oi : Oper} {v : Value} {Z : List PanicEntry → World → Prop} (ho : ops[p]? = some o) (hi : ops[i]? = some oi) (hip : i ≠ p) (hsel : ∀ (j : Nat) (o : Oper) cs b, ops[j]? = some o → o.op ≠ .select cs b) (f : Nat) :
    ∀ (listed : Array Bool) (a : Act),
      (∀ j oj, ops[j]? = some oj → j ≠ i → listed.getD j true = false → (∀ e ∈ oj.after, Region.binds md e = true → e.on ≠ i) → oi.apart ops oj = true) →
      i ∈ Region.ready md ops listed → YieldsIn P ops C oi v a →
      headX P md ops C p o Z f (listed.setIfInBounds i true) (a.put oi.dst v) → headX P md ops C p o Z (f + 1) listed a := by
  have key : ∀ (listed : Array Bool), i ∈ Region.ready md ops listed → ∀ j oj, j ∈ Region.ready md ops listed → ops[j]? = some oj → ∀ e ∈ oj.after, Region.binds md e = true → e.on ≠ i := by
    intro listed hr j oj hj hoj e he hb heq
    obtain ⟨_, o', ho', hall⟩ := mem_ready.1 hj
    obtain rfl : o' = oj := Option.some.inj (ho'.symm.trans hoj)
    have h1 := hall e he hb
    rw [heq, getD_both (mem_ready.1 hr).1] at h1
    cases h1
  induction f with
  | zero =>
    intro listed a hfree hr hy H
    refine ⟨List.ne_nil_of_mem hr, fun j hj => ?_⟩
    by_cases hji : j = i
    · subst hji
      exact .inr (hy.qOp hi H)
    · have h1 := ready_mono hj hji
      rw [H.1] at h1
      obtain rfl : j = p := by simpa using h1
      exact .inl ⟨rfl, H.2.of_put (hfree j o ho hji (mem_ready.1 hj).1 (key listed hr j o hj ho)) (hsel j o · · ho)⟩
  | succ f ih =>
    intro listed a hfree hr hy H
    refine ⟨List.ne_nil_of_mem hr, fun j hj => ?_⟩
    by_cases hji : j = i
    · subst hji
      exact .inr (hy.qOp hi H)
    · obtain ⟨hjun, oj, hoj, hall⟩ := mem_ready.1 hj
      have hnot := key listed hr j oj hj hoj
      have hap := hfree j oj hoj hji hjun hnot
      rcases H.2 j (ready_mono hj hji) with ⟨rfl, hx⟩ | hq
      · obtain rfl : oj = o := Option.some.inj (hoj.symm.trans ho)
        exact .inl ⟨rfl, hx.of_put hap (hsel j oj · · ho)⟩
      · have h2 := qOp_put hoj hap (fun cs b => hsel i oi cs b hi) (fun cs b => hsel j oj cs b hoj) hy hq
        refine .inr (qOp_mono (fun a' h3 => ih (listed.setIfInBounds j true) a' (fun k ok hk hki hun' hno => ?_) (ready_mono hr (Ne.symm hji)) h3.1 ?_) h2)
        · refine hfree k ok hk hki ?_ hno
          by_cases hjk : j = k
          · subst hjk; exact hjun
          · rw [getD_set_ne true hjk] at hun'; exact hun'
        · rw [Array.setIfInBounds_comm _ _ hji]
          exact h3.2

/-- these may be taken as they stand; then that one alone may come up -/
def lexX (md : Region.Mode) (ops : Array Oper) (p : Nat) : List Nat → Array Bool → Bool
  | [], listed => Region.ready md ops listed == [p]
  | k :: ks, listed => (Region.ready md ops listed).contains k && k != p && Region.free md ops listed k && lexX md ops p ks (listed.setIfInBounds k true)

theorem headX_lex {p : Nat} {o : Oper} {Z : List PanicEntry → World → Prop} (ho : ops[p]? = some o) (hsel : Region.noSelect ops = true) :
    ∀ (l : List Oper) (ks : List Nat) (listed : Array Bool) (a : Act), l.length = ks.length → (∀ (j k : Nat), ks[j]? = some k → l[j]? = ops[k]?) →
    lexX md ops p ks listed = true → wpQuiet P ops C (PanicsIn P ops C o Z) l a → headX P md ops C p o Z l.length listed a := by
  intro l
  induction l with
  | nil =>
    intro ks listed a hk _ hB h
    obtain rfl : ks = [] := List.eq_nil_of_length_eq_zero hk.symm
    exact ⟨by simpa [lexX] using hB, h⟩
  | cons oi l ih =>
    intro ks listed a hk hl hB h
    match ks, hk with
    | k :: ks, hk =>
      have h0 : ops[k]? = some oi := by simpa using (hl 0 k rfl).symm
      simp only [lexX, Bool.and_eq_true, bne_iff_ne, ne_eq] at hB
      obtain ⟨⟨⟨hr, hkp⟩, hf⟩, hB'⟩ := hB
      have hr' : k ∈ Region.ready md ops listed := by simpa using hr
      obtain ⟨v, hy, hK⟩ := yieldsIn_of_qOp (K := wpQuiet P ops C (PanicsIn P ops C o Z) l) (C := C) h0 (by unfold qOp; simp only [h0]; exact h)
      refine headX_take ho h0 hkp (Region.noSelect_spec hsel) l.length listed a (Region.free_spec h0 hf) hr' hy ?_
      exact ih ks _ _ (by simpa using hk) (fun j k' hj => by have := hl (j + 1) k' (by simpa using hj); simpa using this) hB' hK

/-- all ahead of p, and m from q on -/
def aheadX (p q m : Nat) : List Nat := List.range p ++ (List.range m).map (q + ·)
def lexXB (ops : Array Oper) (p q m : Nat) : Bool := Region.noSelect ops && decide (p < q) && decide (q + m ≤ ops.size) && lexX .any ops p (aheadX p q m) (Array.replicate ops.size false)

/-- a call that panics, whatever came ahead of it -/
theorem region_panics {id : Nat} {Q : Exit → Act → World → Prop} {a : Act} {w : World} {l : List Oper} (C : World → Prop) (Z : List PanicEntry → World → Prop) (p q m : Nat) (o : Oper) (ho : l[p]? = some o) (hm : P.follows .mixedOrders = true) (hB : lexXB l.toArray p q m = true) (hC : C w.drew)
    (hQ : ∀ a' ch w', a'.defers = a.defers → Z ch w' → Q (.panic ch) a' w')
    (h : wpQuiet P l.toArray C (PanicsIn P l.toArray C o Z) (l.take p ++ (l.drop q).take m) a) : (Code.region id l.toArray true).wp P Q a w := by
  simp only [lexXB, Bool.and_eq_true, decide_eq_true_eq] at hB
  obtain ⟨⟨⟨hsel, hpq⟩, hp⟩, hlex⟩ := hB
  have hp' : q + m ≤ l.length := by simpa using hp
  have htl : (l.take p ++ (l.drop q).take m).length = p + m := by simp; omega
  have hal : (aheadX p q m).length = p + m := by simp [aheadX]
  have H := headX_lex (md := .any) (P := P) (C := C) (ops := l.toArray) (p := p) (o := o) (Z := Z) (by simpa using ho) hsel (l.take p ++ (l.drop q).take m) (aheadX p q m) (Array.replicate l.toArray.size false) a (htl.trans hal.symm) (fun j k hj => by
    unfold aheadX at hj
    have htp : (l.take p).length = p := by simp; omega
    by_cases hjp : j < p
    · rw [List.getElem?_append_left (by simpa using hjp)] at hj
      rw [List.getElem?_append_left (by rw [htp]; exact hjp)]
      have : j = k := by simpa [hjp] using hj
      subst this
      simp [hjp]
    · rw [List.getElem?_append_right (by simpa using hjp)] at hj
      rw [List.getElem?_append_right (by rw [htp]; omega), htp]
      simp only [List.length_range, List.getElem?_map, Option.map_eq_some_iff] at hj
      obtain ⟨x, hx, rfl⟩ := hj
      have hx' := List.getElem?_eq_some_iff.1 hx
      obtain ⟨hlt, hx'⟩ := hx'
      simp only [List.length_range] at hlt
      simp only [List.getElem_range] at hx'
      subst hx'
      rw [List.getElem?_take_of_lt hlt, List.getElem?_drop]
      simp) hlex h
  rw [htl] at H
  exact wp_region_any hm (any_of_headX (by simpa using ho) (fun a' ch w' hd hz => hQ a' ch w' hd hz) (p + m) _ _ _ _ hC rfl (by simpa using (by omega : p + m < l.length)) H)
end
end Go.Proofs.Ytbpdggdpgohilaa
