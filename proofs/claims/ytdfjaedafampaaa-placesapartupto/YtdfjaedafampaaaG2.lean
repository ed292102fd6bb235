/- Contracts and plain facts that the walks share. -/
import Derived.Test.YtdfjaedafampaaaRcT
import Derived.Laws.AppendOwnNone
import Derived.Deep.Onto
import Derived.Deep.Slices
import Derived.OpenShut
import Derived.SizedLaws
namespace Go.Proofs.Ytdfjaedafampaaa
open Go.RowKit
set_option linter.unusedVariables false
section
variable {P : Program} {ops : Array Oper} {md : Region.Mode} {C : World → Prop}

/-- from here on: so many operations, each of them one of the first n, each quiet; then L -/
def headQ (P : Program) (md : Region.Mode) (ops : Array Oper) (C : World → Prop) (n : Nat) (L : Array Bool → Act → Prop) : Nat → Array Bool → Act → Prop
  | 0, listed, a => L listed a
  | f + 1, listed, a => Region.ready md ops listed ≠ [] ∧ ∀ i ∈ Region.ready md ops listed, i < n ∧ qOp P ops C i (headQ P md ops C n L f (listed.setIfInBounds i true)) a

theorem any_of_headQ {n g : Nat} {L : Array Bool → Act → Prop} {Q' : Exit → Act → World → Prop} (hL : ∀ listed a w, C w → L listed a → wpAny P md ops Q' g listed a w) (f : Nat) :
    ∀ (listed : Array Bool) (a : Act) (w : World), C w → headQ P md ops C n L f listed a → wpAny P md ops Q' (f + g) listed a w := by
  induction f with
  | zero => intro listed a w hw h; rw [Nat.zero_add]; exact hL _ _ _ hw h
  | succ f ih =>
    intro listed a w hw h
    rw [Nat.add_right_comm]
    exact ⟨fun h0 => absurd h0 h.1, fun i hi => wpOp_of_qOp hw (fun a' w' hw' h' => ih _ a' w' hw' h') (h.2 i hi).2⟩

theorem headQ_take {n i : Nat} {oi : Oper} {v : Value} {L : Array Bool → Act → Prop} (hi : ops[i]? = some oi) (hsel : ∀ (j : Nat) (o : Oper) cs b, ops[j]? = some o → o.op ≠ .select cs b)
    (hs : Region.sinkB md ops n = true) (hc : Region.chainB md ops n = true) (hn : n < ops.size) (hin : i < n) (hdone : ∀ listed a, L listed a → ∀ j ∈ Region.ready md ops listed, n ≤ j) (f : Nat) :
    ∀ (listed : Array Bool) (a : Act), HeadInv md ops n listed →
      (∀ j oj, ops[j]? = some oj → j ≠ i → listed.getD j true = false → (∀ e ∈ oj.after, Region.binds md e = true → e.on ≠ i) → oi.apart ops oj = true) →
      i ∈ Region.ready md ops listed → YieldsIn P ops C oi v a →
      headQ P md ops C n L f (listed.setIfInBounds i true) (a.put oi.dst v) → headQ P md ops C n L (f + 1) listed a := by
  induction f with
  | zero =>
    intro listed a inv hfree hr hy H
    refine ⟨List.ne_nil_of_mem hr, fun j hj => ?_⟩
    have hjn : j < n := Nat.lt_of_not_le fun h => tail_waits hs hc hn inv _ i rfl hin (mem_ready.1 hr).1 j h hj
    by_cases hji : j = i
    · subst hji; exact ⟨hjn, hy.qOp hi H⟩
    · exact absurd (hdone _ _ H j (ready_mono hj hji)) (by omega)
  | succ f ih =>
    intro listed a inv hfree hr hy H
    refine ⟨List.ne_nil_of_mem hr, fun j hj => ?_⟩
    have hun := (mem_ready.1 hr).1
    have hjn : j < n := Nat.lt_of_not_le fun h => tail_waits hs hc hn inv _ i rfl hin hun j h hj
    refine ⟨hjn, ?_⟩
    by_cases hji : j = i
    · subst hji; exact hy.qOp hi H
    · obtain ⟨hjun, oj, hoj, hall⟩ := mem_ready.1 hj
      have hnot : ∀ e ∈ oj.after, Region.binds md e = true → e.on ≠ i := fun e he hb heq => by
        have h1 := hall e he hb
        rw [heq, getD_both hun] at h1
        cases h1
      have h2 := qOp_put hoj (hfree j oj hoj hji hjun hnot) (fun cs b => hsel i oi cs b hi) (fun cs b => hsel j oj cs b hoj) hy (H.2 j (ready_mono hj hji)).2
      refine qOp_mono (fun a' h3 => ih (listed.setIfInBounds j true) a' (inv.set hj hjn) (fun k ok hk hki hun' hno => ?_) (ready_mono hr (Ne.symm hji)) h3.1 ?_) h2
      · refine hfree k ok hk hki ?_ hno
        by_cases hjk : j = k
        · subst hjk; exact hjun
        · rw [getD_set_ne true hjk] at hun'; exact hun'
      · rw [Array.setIfInBounds_comm _ _ hji]
        exact h3.2

theorem headQ_lex {n g : Nat} {Lq : Act → Prop} (hsel : Region.noSelect ops = true) (hs : Region.sinkB md ops n = true) (hc : Region.chainB md ops n = true) (hn : n < ops.size) :
    ∀ (l : List Oper) (k : Nat) (listed : Array Bool) (a : Act), (∀ j, j < l.length → l[j]? = ops[k + j]?) → k + l.length = n → HeadInv md ops n listed →
    Region.lexHead md ops g l.length k listed = true → wpQuiet P ops C Lq l a →
    headQ P md ops C n (fun listed' a' => Region.seqB md ops g n listed' = true ∧ Lq a') l.length listed a := by
  intro l
  induction l with
  | nil =>
    intro k listed a _ hk _ hB h
    obtain rfl : k = n := by simpa using hk
    exact ⟨by simpa [Region.lexHead] using hB, h⟩
  | cons o l ih =>
    intro k listed a hl hk inv hB h
    have h0 : ops[k]? = some o := by simpa using (hl 0 (by simp)).symm
    simp only [List.length_cons, Region.lexHead, Bool.and_eq_true] at hB
    obtain ⟨⟨hr, hf⟩, hB'⟩ := hB
    simp only [List.length_cons] at hk
    have hr' : k ∈ Region.ready md ops listed := by simpa using hr
    obtain ⟨v, hy, hK⟩ := yieldsIn_of_qOp (K := wpQuiet P ops C Lq l) (C := C) h0 (by unfold qOp; simp only [h0]; exact h)
    refine headQ_take h0 (Region.noSelect_spec hsel) hs hc hn (by omega) (fun listed' a' hL => seqB_ready hL.1) l.length listed a inv (Region.free_spec h0 hf) hr' hy ?_
    exact ih (k + 1) _ _ (fun j hj => by have := hl (j + 1) (by simp; omega); simpa [Nat.add_assoc, Nat.add_comm 1 j] using this) (by omega) (inv.set hr' (by omega)) hB' hK

/-- the head quiet over a class, the tail forced -/
theorem tail_class {id : Nat} {Q : Exit → Act → World → Prop} {a : Act} {w : World} {l : List Oper} (C : World → Prop) (n : Nat) (hm : P.follows .mixedOrders = true) (hB : Region.lexTailB .any l.toArray n = true) (hC : C w.drew)
    (h : wpQuiet P l.toArray C (fun a' => ∀ w', C w' → wpList P l.toArray Q (l.drop n) a' w') (l.take n) a) : (Code.region id l.toArray true).wp P Q a w := by
  simp only [Region.lexTailB, Bool.and_eq_true, decide_eq_true_eq] at hB
  obtain ⟨⟨⟨⟨hsel, hn⟩, hs⟩, hc⟩, hlex⟩ := hB
  have hn' : n < l.length := by simpa using hn
  have htl : (l.take n).length = n := by simp; omega
  have hdl : (l.drop n).length = l.toArray.size - n := by simp
  have inv0 : HeadInv .any l.toArray n (Array.replicate l.toArray.size false) :=
    ⟨by simp, fun j oj _ hl => (by rw [getD_replicate_false] at hl; cases hl), fun t _ ht => getD_in (by simpa using ht) (getD_replicate_false _ _)⟩
  have H := headQ_lex (md := .any) (g := l.toArray.size - n) hsel hs hc hn (l.take n) 0 _ a (fun j hj => by
    have hj' : j < n := by rw [htl] at hj; exact hj
    simp [hj']) (by simpa using htl) inv0 (by rw [htl]; exact hlex) h
  refine wp_region_any hm ?_
  have T := any_of_headQ (Q' := Q) (g := l.toArray.size - n) (fun listed a' w' hw' hL => by
    have := wpAny_of_seq (md := .any) (Q' := Q) (l.drop n) n listed a' w' (fun j => by simp [List.getElem?_drop]) (by rw [hdl]; exact hL.1) (hL.2 w' hw')
    rwa [hdl] at this) _ _ _ _ hC H
  rw [htl, show n + (l.toArray.size - n) = l.toArray.size by omega] at T
  exact T

/-- in this state, in every world of the class, the operation is a call that panics -/
def PanicsIn (P : Program) (ops : Array Oper) (C : World → Prop) (o : Oper) (Z : List PanicEntry → World → Prop) (a : Act) : Prop :=
  Region.wanted o (yielded ops a.tmps) = true ∧ ∀ w, C w → ∃ f args, (execOp a.eval o).run P w = .ok (.enter f args) w ∧ Calls P f args w fun e w' => ∃ ch, e = .panicked ch ∧ Z ch w'

theorem put_defers (a : Act) (d : Option Tmp) (v : Value) : (a.put d v).defers = a.defers := by cases d <;> rfl

theorem PanicsIn.wpOp {p : Nat} {o : Oper} {Z : List PanicEntry → World → Prop} {a : Act} {w : World} {K : Act → World → Prop} {Q : Exit → Act → World → Prop} (ho : ops[p]? = some o) (hw : C w) (h : PanicsIn P ops C o Z a) (hQ : ∀ ch w', Z ch w' → Q (.panic ch) a w') : wpOp P ops Q p K a w := by
  obtain ⟨h1, h2⟩ := h
  obtain ⟨f, args, h3, h4⟩ := h2 w hw
  unfold Go.wpOp
  simp only [ho, h1, if_true]
  refine .inl ?_
  unfold Oper.wp
  rw [h3, Oper.upon_enter]
  refine h4.mono ?_
  rintro e w' ⟨ch, rfl, hz⟩
  exact hQ ch w' hz

end
/-- only blocks of l are turned, and new ones made -/
structure Ch (w w' : World) (l : List Nat) : Prop where
  os : w'.os = w.os
  tape : w'.tape = w.tape
  output : w'.output = w.output
  size : w.heap.size ≤ w'.heap.size
  block : ∀ k, k < w.heap.size → k ∉ l → w'.heap[k]? = w.heap[k]?
theorem Ch.refl (w : World) (l : List Nat) : Ch w w l := ⟨rfl, rfl, rfl, Nat.le_refl _, fun _ _ _ => rfl⟩
theorem Ch.trans {w w1 w2 : World} {l : List Nat} (h1 : Ch w w1 l) (h2 : Ch w1 w2 l) : Ch w w2 l :=
  ⟨h2.os.trans h1.os, h2.tape.trans h1.tape, h2.output.trans h1.output, Nat.le_trans h1.size h2.size, fun k hk hl => (h2.block k (Nat.lt_of_lt_of_le hk h1.size) hl).trans (h1.block k hk hl)⟩
theorem Ch.of {w w' : World} {l : List Nat} (h : w.grownBy w' none) : Ch w w' l := ⟨h.os, h.tape, h.output, h.size, fun k hk _ => h.block k hk (by simp)⟩
theorem Ch.one {w w' : World} {b : Nat} {l : List Nat} (h : w.grownBy w' (some b)) (hb : b ∈ l) : Ch w w' l := ⟨h.os, h.tape, h.output, h.size, fun k hk hl => h.block k hk (by intro e; injection e with e; subst e; exact hl hb)⟩
theorem Ch.mono {w w' : World} {l l' : List Nat} (h : Ch w w' l) (hl : ∀ k, k < w.heap.size → k ∈ l → k ∈ l') : Ch w w' l' := ⟨h.os, h.tape, h.output, h.size, fun k hk hn => h.block k hk (fun hm => hn (hl k hk hm))⟩
theorem Ch.nil {w w' : World} {l : List Nat} (h : Ch w w' l) (hl : ∀ k, k ∈ l → w.heap.size ≤ k) : w.grownBy w' none := ⟨h.os, h.tape, h.output, h.size, fun k hk _ => h.block k hk (fun hm => by have := hl k hm; omega)⟩
theorem Ch.below {w w' : World} {l : List Nat} {N : Nat} (h : Ch w w' l) (hN : N ≤ w.heap.size) (hl : ∀ k, k ∈ l → N ≤ k) : Below N w w' := ⟨h.os, h.tape, h.output, h.size, fun k hk => h.block k (by omega) (fun hm => by have := hl k hm; omega)⟩
theorem Ch.new {w w1 w2 : World} {l : List Nat} (h1 : Ch w w1 l) {b : Nat} (hb : w.heap.size ≤ b) (h2 : w1.grownBy w2 (some b)) : Ch w w2 l :=
  ⟨h2.os.trans h1.os, h2.tape.trans h1.tape, h2.output.trans h1.output, Nat.le_trans h1.size h2.size, fun k hk hl => (h2.block k (Nat.lt_of_lt_of_le hk h1.size) (by intro e; injection e with e; omega)).trans (h1.block k hk hl)⟩
theorem Ch.cell {w w' : World} {l : List Nat} (h : Ch w w' l) {b o : Nat} {v : Value} (hc : w.cell? ⟨b, o, none⟩ = some v) (hb : b ∉ l) : w'.cell? ⟨b, o, none⟩ = some v := by
  have hlt := World.block_lt_of_cell? _ _ hc
  rw [← hc]
  exact World.cell?_of_block (h.block b hlt hb)
/-- numbers that lie in a row, below block N -/
structure NumIn (N : Nat) (w : World) (a : Option Addr) (n c : Nat) (M : Nat → Int) : Prop where
  le : n ≤ c
  max : c ≤ maxLen
  lie : n = 0 ∨ ∃ b off, a = some ⟨b, off, none⟩ ∧ b < N ∧ ∀ i, i < n → w.cell? ⟨b, off + i, none⟩ = some (.int .i64 (M i))
theorem NumIn.ch {N : Nat} {w w' : World} {a : Option Addr} {n c : Nat} {M : Nat → Int} {l : List Nat} (h : NumIn N w a n c M) (hg : Ch w w' l) (hl : ∀ k, k ∈ l → N ≤ k) : NumIn N w' a n c M :=
  ⟨h.le, h.max, by
    rcases h.lie with h0 | ⟨b, off, e, hb, hi⟩
    · exact .inl h0
    · exact .inr ⟨b, off, e, hb, fun i hi' => hg.cell (hi i hi') (fun hm => by have := hl b hm; omega)⟩⟩
/-- numbers of the call's own -/
def OwnN (w : World) (base : Nat) (v : Value) (n : Nat) (g : Nat → Int) : Prop := w.ownsRow base 3 1 v n ((List.range n).map fun i => Value.int .i64 (g i))
/-- .. as a list -/
def OwnZ (w : World) (base : Nat) (v : Value) (l : List Int) : Prop := w.ownsRow base 3 1 v l.length (l.map (Value.int .i64))
theorem OwnZ.n {w : World} {base : Nat} {v : Value} {l : List Int} (h : OwnZ w base v l) : OwnN w base v l.length (fun i => l.getD i 0) := by
  unfold OwnN
  have e : (List.range l.length).map (fun i => Value.int .i64 (l.getD i 0)) = l.map (Value.int .i64) := by
    refine List.ext_getElem (by simp) fun i h1 h2 => ?_
    simp at h1
    simp [List.getD_eq_getElem?_getD, List.getElem?_eq_getElem h1]
  rw [e]
  exact h
theorem OwnN.z {w : World} {base n : Nat} {v : Value} {g : Nat → Int} (h : OwnN w base v n g) : OwnZ w base v ((List.range n).map g) := by
  unfold OwnZ
  rw [List.length_map, List.length_range, List.map_map]
  exact h
theorem OwnN.congr {w : World} {base n : Nat} {v : Value} {g g' : Nat → Int} (h : OwnN w base v n g) (e : ∀ i, i < n → g i = g' i) : OwnN w base v n g' := by
  unfold OwnN at h ⊢
  rw [show (List.range n).map (fun i => Value.int .i64 (g' i)) = (List.range n).map (fun i => Value.int .i64 (g i)) from List.map_congr_left fun i hi => by rw [e i (List.mem_range.1 hi)]]
  exact h
theorem OwnN.low {w : World} {base base' n : Nat} {v : Value} {g : Nat → Int} (h : OwnN w base v n g) (hb : base' ≤ base) : OwnN w base' v n g := World.ownsRow.mono h hb
theorem OwnZ.low {w : World} {base base' : Nat} {v : Value} {l : List Int} (h : OwnZ w base v l) (hb : base' ≤ base) : OwnZ w base' v l := World.ownsRow.mono h hb
theorem ownsRow_ch {w w' : World} {l : List Nat} {base : Nat} {e : TypeId} {size n : Nat} {v : Value} {xs : List Value} (h : w.ownsRow base e size v n xs) (hg : Ch w w' l) (hne : ∀ k, v.ownBlock = some k → k ∉ l) : w'.ownsRow base e size v n xs := by
  refine ⟨h.1, ?_⟩
  rcases h.2 with h0 | ⟨g, cap, cur, e1, e2, e3, e4⟩
  · exact .inl h0
  · have hlt : g < w.heap.size := (World.ownsRow.lt h g (by rw [e1]; rfl)).2
    exact .inr ⟨g, cap, cur, e1, e2, (hg.block g hlt (hne g (by rw [e1]; rfl))).trans e3, e4⟩
theorem OwnN.ch {w w' : World} {l : List Nat} {base n : Nat} {v : Value} {g : Nat → Int} (h : OwnN w base v n g) (hg : Ch w w' l) (hne : ∀ k, v.ownBlock = some k → k ∉ l) : OwnN w' base v n g := ownsRow_ch h hg hne
theorem OwnZ.ch {w w' : World} {l : List Nat} {base : Nat} {v : Value} {z : List Int} (h : OwnZ w base v z) (hg : Ch w w' l) (hne : ∀ k, v.ownBlock = some k → k ∉ l) : OwnZ w' base v z := ownsRow_ch h hg hne
theorem OwnN.grow {w w' : World} {base n : Nat} {v : Value} {g : Nat → Int} (h : OwnN w base v n g) (hg : w.grownBy w' none) : OwnN w' base v n g := World.ownsRow.kept h hg (Classical.em _)
theorem OwnZ.grow {w w' : World} {base : Nat} {v : Value} {l : List Int} (h : OwnZ w base v l) (hg : w.grownBy w' none) : OwnZ w' base v l := World.ownsRow.kept h hg (Classical.em _)
theorem OwnN.base {w : World} {base n : Nat} {v : Value} {g : Nat → Int} (h : OwnN w base v n g) : ∀ k, v.ownBlock = some k → base ≤ k := fun k hk => (World.ownsRow.lt h k hk).1
theorem OwnZ.base {w : World} {base : Nat} {v : Value} {l : List Int} (h : OwnZ w base v l) : ∀ k, v.ownBlock = some k → base ≤ k := fun k hk => (World.ownsRow.lt h k hk).1
theorem OwnN.lt {w : World} {base n : Nat} {v : Value} {g : Nat → Int} (h : OwnN w base v n g) : ∀ k, v.ownBlock = some k → k < w.heap.size := fun k hk => (World.ownsRow.lt h k hk).2
theorem OwnZ.lt {w : World} {base : Nat} {v : Value} {l : List Int} (h : OwnZ w base v l) : ∀ k, v.ownBlock = some k → k < w.heap.size := fun k hk => (World.ownsRow.lt h k hk).2
theorem OwnN.slice {w : World} {base n : Nat} {v : Value} {g : Nat → Int} (h : OwnN w base v n g) : ∃ a c, v = .slice a n c ∧ n ≤ c ∧ c ≤ maxLen ∧ (0 < n → ∃ T, a = some ⟨T, 0, none⟩ ∧ base ≤ T ∧ T < w.heap.size) := by
  rcases h.2 with ⟨rfl, h0⟩ | ⟨T, c, cur, rfl, e2, e3, e4, e5, _⟩
  · exact ⟨none, 0, by rw [h0], by omega, Nat.zero_le _, fun h => by omega⟩
  · exact ⟨some ⟨T, 0, none⟩, c, rfl, e4, e5, fun _ => ⟨T, rfl, e2, (World.ownsRow.lt h T rfl).2⟩⟩
theorem OwnZ.slice {w : World} {base : Nat} {v : Value} {l : List Int} (h : OwnZ w base v l) : ∃ a c, v = .slice a l.length c ∧ l.length ≤ c ∧ c ≤ maxLen ∧ (0 < l.length → ∃ T, a = some ⟨T, 0, none⟩ ∧ base ≤ T ∧ T < w.heap.size) := h.n.slice
theorem OwnN.cell {w : World} {base n c T : Nat} {g : Nat → Int} (h : OwnN w base (.slice (some ⟨T, 0, none⟩) n c) n g) {i : Nat} (hi : i < n) : w.cell? ⟨T, i, none⟩ = some (.int .i64 (g i)) := by
  rw [World.ownsRow.cellAt h i (by omega), List.getElem?_map, List.getElem?_range hi]
  rfl
theorem OwnN.frozen {w : World} {base n c T : Nat} {g : Nat → Int} (h : OwnN w base (.slice (some ⟨T, 0, none⟩) n c) n g) (i : Nat) : w.frozen? ⟨T, i, none⟩ = false := World.ownsRow.frozenAt h i
def setF (g : Nat → Int) (i : Nat) (x : Int) : Nat → Int := fun k => if k = i then x else g k
theorem grown_set (w : World) (T i : Nat) (u : Value) : w.grownBy (w.setCell ⟨T, i, none⟩ u) (some T) := grown_setCell _ _ _ _
theorem OwnN.set {w : World} {base n c T : Nat} {g : Nat → Int} (h : OwnN w base (.slice (some ⟨T, 0, none⟩) n c) n g) {i : Nat} (hi : i < n) (x : Int) : OwnN (w.setCell ⟨T, i, none⟩ (.int .i64 x)) base (.slice (some ⟨T, 0, none⟩) n c) n (setF g i x) := by
  have := (World.ownsRow.stored h i (.int .i64 x)).1
  unfold OwnN
  rw [show (List.range n).map (fun k => Value.int .i64 (setF g i x k)) = ((List.range n).map fun k => Value.int .i64 (g k)).set i (.int .i64 x) from ?_]
  · exact this
  · refine List.ext_getElem (by simp) fun k h1 h2 => ?_
    simp at h1
    simp [setF, List.getElem_set]
    by_cases e : k = i
    · subst e; simp
    · simp [e, Ne.symm e]
theorem info_int : (Try.prog.info? 3).map (fun i => (i.zero, i.size, i.bytes)) = some (some (.int .i64 0), 1, 8) := by kernel_rfl
theorem NumIn.at {N : Nat} {w : World} {a : Option Addr} {n c : Nat} {M : Nat → Int} (h : NumIn N w a n c M) {i : Nat} (hi : i < n) : ∃ b off, a = some ⟨b, off, none⟩ ∧ b < N ∧ w.cell? ⟨b, off + i, none⟩ = some (.int .i64 (M i)) := by
  rcases h.lie with h0 | ⟨b, off, e, hb, hh⟩
  · omega
  · exact ⟨b, off, e, hb, hh i hi⟩
/-- numbers of one's own, appended to numbers of one's own -/
theorem wp_appZs {ops : Array Oper} {rest : List Oper} {o : Oper} {a : Act} {Q : Exit → Act → World → Prop} {W : World} (hgd : o.guard = none) (s x : Operand)
    (ho : o.op = .call { callee := .builtin .append, args := #[s, x], argTypes := #[24, 24] }) (base : Nat) (v u : Value) (l m : List Int) (b2 : Nat) (hs : a.eval s = v) (hown : OwnZ W base v l)
    (hx : a.eval x = u) (hsrc : OwnZ W b2 u m) (hl : l.length ≤ 2000000) (hm : m.length ≤ 2000000) (hb : base ≤ W.heap.size)
    (h : ∀ v' w', OwnZ w' base v' (l ++ m) → W.grownBy w' v.ownBlock → wpList Try.prog ops Q rest (a.put o.dst v') w') : wpList Try.prog ops Q (o :: rest) a W := by
  obtain ⟨i, hi, hz0, hz1, hz2⟩ := info_parts info_int
  rcases hsrc.2 with ⟨rfl, h0⟩ | ⟨T, c, cur, rfl, _⟩
  · have : m = [] := List.length_eq_zero_iff.1 h0
    subst this
    refine wpList_append_own_none hgd s x 24 ho base 3 i 1 Try.underlying24 hi v l.length (l.map (Value.int .i64)) hs hown hx ?_
    exact h v W (by rw [List.append_nil]; exact hown) (World.grownBy.refl _ _)
  · refine wpList_append_own _ hgd s x 24 ho base 3 i (.int .i64 0) 1 8 Try.underlying24 hi hz0 hz1 hz2 rfl (by decide) v l.length (l.map (Value.int .i64)) hs hown ⟨T, 0, none⟩ m.length c (m.map (Value.int .i64)) hx (by simp)
      (fun j y hj => World.ownsRow.cells hsrc rfl j y hj) (by intro y hy; obtain ⟨z, _, rfl⟩ := List.mem_map.mp hy; rfl) (by unfold maxLen; omega) (by omega) hb ?_
    intro v' w2 ho2 hg2 _
    refine h v' w2 ?_ hg2
    unfold OwnZ
    rw [List.length_append, List.map_append]
    exact ho2
/-- all that is told of a reading is within reach -/
def Fits {H : Type} (t : TypeId) (d : DataW H) : Prop := ∀ n ∈ d.weights Try.prog t, n ≤ reachBytes
theorem weights_all {H : Type} {e : TypeId} : ∀ {l : List (DataW H)} {d : DataW H}, d ∈ l → ∀ n ∈ d.weights Try.prog e, n ∈ DataW.weightsAll Try.prog e l
  | d0 :: l, d, hd, n, hn => by
    simp only [DataW.weightsAll, List.mem_append]
    rcases List.mem_cons.1 hd with rfl | h
    · exact .inl hn
    · exact .inr (weights_all h n hn)
theorem Fits.len {H : Type} {t e : TypeId} {l r : List (DataW H)} (ht : Try.prog.underlying t = some (.slice e)) (h : Fits t (.slice l r)) (hb : 0 < Try.prog.bytesOf e) : l.length ≤ reachBytes := by
  have := h ((l.length + r.length) * Try.prog.bytesOf e) (by simp [DataW.weights, ht])
  refine Nat.le_trans ?_ this
  exact Nat.le_trans (Nat.le_add_right _ _) (Nat.le_mul_of_pos_right _ hb)
theorem Fits.elem {H : Type} {t e : TypeId} {l r : List (DataW H)} {d : DataW H} (ht : Try.prog.underlying t = some (.slice e)) (h : Fits t (.slice l r)) (hd : d ∈ l) : Fits e d := fun n hn =>
  h n (by simp only [DataW.weights, ht, List.mem_cons, List.mem_append]; exact .inr (.inl (weights_all hd n hn)))
theorem Fits.field {H : Type} {t : TypeId} {fs : Array Field} {xs : List (DataW H × List MemPlace)} {q : List MemPlace} {x y : DataW H × List MemPlace} {i : Nat} {f : Field} (ht : Try.prog.underlying t = some (.struct fs)) (h : Fits t x.1) (hx : x = (.agg (xs.map (·.1)), q)) (hf : fs[i]? = some f) (hy : xs[i]? = some y) : Fits f.type y.1 := fun n hn =>
  h n (by
    subst hx
    simp only [DataW.weights, ht]
    exact DataW.weights_mem_each (j := i) (t := f.type) (d := y.1) (by simp [hf]) (by simp [hy]) n hn)
theorem addr_add (b off n : Nat) : (⟨b, off, none⟩ : Addr).add n = ⟨b, off + n, none⟩ := by simp [Addr.add]
/-- a row of things of c cells, by bytes each -/
structure RowB {α : Type} (c by' : Nat) (Q : World → Nat → Nat → α → Prop) (W : World) (a : Option Addr) (len cap : Nat) (V : Nat → α) : Prop where
  nil : a = none → len = 0 ∧ cap = 0
  le : len ≤ cap
  max : cap ≤ maxLen
  fits : len * by' ≤ reachBytes
  bs : len = 0 ∨ ∃ b off, a = some ⟨b, off, none⟩ ∧ b < W.heap.size ∧ ∀ i, i < len → Q W b (off + i * c) (V i)
theorem Fits.lenB {H : Type} {t e : TypeId} {l r : List (DataW H)} (ht : Try.prog.underlying t = some (.slice e)) (h : Fits t (.slice l r)) : l.length * Try.prog.bytesOf e ≤ reachBytes := by
  have := h ((l.length + r.length) * Try.prog.bytesOf e) (by simp [DataW.weights, ht])
  exact Nat.le_trans (Nat.mul_le_mul_right _ (Nat.le_add_right _ _)) this
theorem open_rowB {α : Type} {t e : TypeId} {c by' : Nat} {H : Type} {enc : TypeId × Value → H} {W : World} {spare : Nat → Bool} {held : Bool} {fuel : Nat} {cs : List Value} {x : DataW H × List MemPlace} (dflt : α) (Q : World → Nat → Nat → α → Prop)
    (ht : Try.prog.underlying t = some (.slice e)) (hc : Try.prog.cellsOf e = c) (c0 : 0 < c) (hby : Try.prog.bytesOf e = by') (hs : Fits t x.1)
    (each : ∀ (n : Nat) (cs : List Value) (b o : Nat) (y : DataW H × List MemPlace), cs.length = c → b < W.heap.size → (∀ j v, cs[j]? = some v → W.cell? ⟨b, o + j, none⟩ = some v) → DataW.trod enc Try.prog W 0 spare held n e cs = some y → Fits e y.1 → ∃ z : α, Q W b o z)
    (h : DataW.trod enc Try.prog W 0 spare held fuel t cs = some x) : ∃ a len cap V, cs = [.slice a len cap] ∧ RowB c by' Q W a len cap V := by
  rcases Go.Deep.open_slice ht h with ⟨hcs, _⟩ | ⟨a', len, cap, m, n, D, Pl, hcs, hb, hl, hm, hmm, hxx, hx⟩
  · exact ⟨none, 0, 0, fun _ => dflt, hcs, fun _ => ⟨rfl, rfl⟩, Nat.le_refl _, Nat.zero_le _, by simp, .inl rfl⟩
  · have hlm : len ≤ m := by rw [hmm]; split <;> omega
    rw [hxx] at hs
    have hfl : len * by' ≤ reachBytes := by have := Fits.lenB ht hs; rw [hby] at this; simpa using this
    by_cases h0 : len = 0
    · exact ⟨_, _, _, fun _ => dflt, hcs, (fun h => by cases h), hl, hm, hfl, .inl h0⟩
    obtain ⟨b, off, spot⟩ := a'
    have h00 : spot = none ∧ b < W.heap.size := by
      obtain ⟨cs', h1, h2⟩ := hx 0 (by omega)
      rw [hc] at h1
      obtain ⟨_, hlen, hcell⟩ := World.cells?_some h1
      have k0 := hcell 0 (by omega)
      obtain ⟨v, hv⟩ : ∃ v, W.cell? ⟨b, off, spot⟩ = some v := by
        have : W.cell? ⟨b, off, spot⟩ = cs'[0]? := by simpa [Addr.add] using k0
        rw [List.getElem?_eq_getElem (by omega)] at this
        exact ⟨_, this⟩
      exact ⟨World.cell?_spot hv, World.block_lt_of_cell? _ _ hv⟩
    obtain ⟨rfl, hlt⟩ := h00
    have each' : ∀ i, i < len → ∃ z : α, Q W b (off + i * c) z := by
      intro i hi
      obtain ⟨cs', h1, h2⟩ := hx i (by omega)
      rw [hc] at h1
      obtain ⟨_, hlen, hcell⟩ := World.cells?_some h1
      refine each n cs' b (off + i * c) _ hlen hlt (fun j v hv => ?_) h2 (Fits.elem ht hs (List.mem_map.2 ⟨i, List.mem_range.2 hi, rfl⟩))
      have hj : j < c := by rw [← hlen]; exact (List.getElem?_eq_some_iff.1 hv).1
      have k := hcell j hj
      rw [addr_add, addr_add] at k
      exact k.trans hv
    have : ∃ V : Nat → α, ∀ i, i < len → Q W b (off + i * c) (V i) :=
      ⟨fun i => if hi : i < len then Classical.choose (each' i hi) else dflt, fun i hi => by simp only [dif_pos hi]; exact Classical.choose_spec (each' i hi)⟩
    obtain ⟨V, hV⟩ := this
    exact ⟨_, _, _, V, hcs, (fun h => by cases h), hl, hm, hfl, .inr ⟨b, off, rfl, hlt, hV⟩⟩
/-- numbers -/
def NumC (W : World) (b o : Nat) (z : Int) : Prop := W.cell? ⟨b, o, none⟩ = some (.int .i64 z)
theorem open_nums {H : Type} {enc : TypeId × Value → H} {W : World} {spare : Nat → Bool} {held : Bool} {fuel : Nat} {cs : List Value} {x : DataW H × List MemPlace}
    (h : DataW.trod enc Try.prog W 0 spare held fuel 24 cs = some x) (hs : Fits 24 x.1) : ∃ a len cap V, cs = [.slice a len cap] ∧ RowB 1 8 NumC W a len cap V := by
  refine open_rowB 0 NumC Try.underlying24 (c := 1) (by kernel_rfl) (by decide) (by kernel_rfl) hs (fun n cs b o y hl hb hc hy hz => ?_) h
  obtain ⟨z, e, _, f⟩ := DataW.trod_int Try.underlying3 hy
  subst e
  exact ⟨z, hc 0 _ rfl⟩
theorem RowB.num {W : World} {a : Option Addr} {len cap : Nat} {V : Nat → Int} (h : RowB 1 8 NumC W a len cap V) : NumIn W.heap.size W a len cap V :=
  ⟨h.le, h.max, by
    rcases h.bs with h0 | ⟨b, off, e, hl, hq⟩
    · exact .inl h0
    · exact .inr ⟨b, off, e, hl, fun i hi => by have := hq i hi; rw [Nat.mul_one] at this; exact this⟩⟩
namespace Ty
/-- an entry -/
structure TyV where
  kind : Int
  elem : Int
  n : Int
  nf : Nat
  F : Nat → Int
/-- how an entry lies -/
structure Li where
  size : Int
  align : Int
  words : Int
  arr : Bool
def li0 : Li := ⟨0, 0, 0, false⟩
/-- the next multiple -/
def up (n a : Int) : Int := (n + a - 1) / a * a
/-- is x the number of one of so many? -/
def nmB (many x : Int) : Bool := decide (0 ≤ x) && decide (x < many)
/-- may it stand at a place of a table of so many? -/
def fldB (x : TyV) (i : Nat) : Bool := decide (x.nf ≤ 16) && (List.range x.nf).all fun k => nmB i (x.F k)
def okB (x : TyV) (i n : Nat) : Bool :=
  if x.kind = 11 ∨ x.kind = 14 then nmB n x.elem && (x.n == 0) && (x.nf == 0)
  else if x.kind = 12 then nmB i x.elem && nmB 65537 x.n && (x.nf == 0)
  else if x.kind = 13 then (x.elem == 0) && (x.n == 0) && fldB x i
  else ((x.kind == 15) || (decide (1 ≤ x.kind) && decide (x.kind ≤ 10))) && (x.elem == 0) && (x.n == 0) && (x.nf == 0)
section
variable (x : TyV) (L : Nat → Li)
/-- a field's -/
def fl (k : Nat) : Li := L (x.F k).toNat
def al : Nat → Int
  | 0 => 1
  | k + 1 => max (al k) (fl x L k).align
def ws : Nat → Int
  | 0 => 0
  | k + 1 => ws k + (fl x L k).words
def ar : Nat → Bool
  | 0 => false
  | k + 1 => ar k || (fl x L k).arr
/-- where so many fields end -/
def en : Nat → Int
  | 0 => 0
  | k + 1 => up (en k) (fl x L k).align + (fl x L k).size
/-- where a field begins -/
def bg (k : Nat) : Int := up (en x L k) (fl x L k).align
def lieOf : Li :=
  if x.kind = 12 then ⟨x.n * (L x.elem.toNat).size, (L x.elem.toNat).align, 0, true⟩
  else if x.kind = 13 then ⟨up (en x L x.nf) (al x L x.nf), al x L x.nf, ws x L x.nf, ar x L x.nf⟩
  else if x.kind = 14 ∨ x.kind = 15 then ⟨16, 8, 2, false⟩
  else ⟨Wd.by' x.kind, Wd.by' x.kind, 1, false⟩
end
/-- what stands ahead of it alone counts -/
theorem al_congr {x : TyV} {L M : Nat → Li} : ∀ {k : Nat}, (∀ j, j < k → fl x L j = fl x M j) → al x L k = al x M k
  | 0, _ => rfl
  | k + 1, h => by rw [al, al, al_congr fun j hj => h j (by omega), h k (by omega)]
theorem ws_congr {x : TyV} {L M : Nat → Li} : ∀ {k : Nat}, (∀ j, j < k → fl x L j = fl x M j) → ws x L k = ws x M k
  | 0, _ => rfl
  | k + 1, h => by rw [ws, ws, ws_congr fun j hj => h j (by omega), h k (by omega)]
theorem ar_congr {x : TyV} {L M : Nat → Li} : ∀ {k : Nat}, (∀ j, j < k → fl x L j = fl x M j) → ar x L k = ar x M k
  | 0, _ => rfl
  | k + 1, h => by rw [ar, ar, ar_congr fun j hj => h j (by omega), h k (by omega)]
theorem en_congr {x : TyV} {L M : Nat → Li} : ∀ {k : Nat}, (∀ j, j < k → fl x L j = fl x M j) → en x L k = en x M k
  | 0, _ => rfl
  | k + 1, h => by rw [en, en, en_congr fun j hj => h j (by omega), h k (by omega)]
theorem nmB_iff {many x : Int} : nmB many x = true ↔ 0 ≤ x ∧ x < many := by unfold nmB; simp
theorem fldB_iff {x : TyV} {i : Nat} : fldB x i = true ↔ x.nf ≤ 16 ∧ ∀ k, k < x.nf → 0 ≤ x.F k ∧ x.F k < i := by
  unfold fldB
  simp only [Bool.and_eq_true, decide_eq_true_eq, List.all_eq_true, List.mem_range, nmB_iff]
/-- what an entry may be -/
theorem ok_cases {x : TyV} {i n : Nat} (h : okB x i n = true) :
    (x.kind = 12 ∧ 0 ≤ x.elem ∧ x.elem < i ∧ 0 ≤ x.n ∧ x.n ≤ 65536 ∧ x.nf = 0) ∨ (x.kind = 13 ∧ x.elem = 0 ∧ x.n = 0 ∧ x.nf ≤ 16 ∧ ∀ k, k < x.nf → 0 ≤ x.F k ∧ x.F k < i) ∨
    ((x.kind = 14 ∨ x.kind = 15) ∧ x.n = 0 ∧ x.nf = 0) ∨ (1 ≤ x.kind ∧ x.kind ≤ 11 ∧ x.n = 0 ∧ x.nf = 0) := by
  unfold okB at h
  split at h
  · simp only [Bool.and_eq_true, beq_iff_eq] at h
    rename_i hk
    rcases hk with hk | hk
    · exact .inr (.inr (.inr ⟨by omega, by omega, h.1.2, h.2⟩))
    · exact .inr (.inr (.inl ⟨.inl hk, h.1.2, h.2⟩))
  · split at h
    · simp only [Bool.and_eq_true, beq_iff_eq, nmB_iff] at h
      exact .inl ⟨by assumption, h.1.1.1, h.1.1.2, h.1.2.1, by omega, h.2⟩
    · split at h
      · simp only [Bool.and_eq_true, beq_iff_eq] at h
        have := fldB_iff.1 h.2
        exact .inr (.inl ⟨by assumption, h.1.1, h.1.2, this.1, this.2⟩)
      · simp only [Bool.and_eq_true, Bool.or_eq_true, beq_iff_eq, decide_eq_true_eq] at h
        rcases h.1.1.1 with hk | hk
        · exact .inr (.inr (.inl ⟨.inr hk, h.1.2, h.2⟩))
        · exact .inr (.inr (.inr ⟨hk.1, by omega, h.1.2, h.2⟩))
theorem lieOf_congr {x : TyV} {i n : Nat} {L M : Nat → Li} (h : okB x i n = true) (e : ∀ j, j < i → L j = M j) : lieOf x L = lieOf x M := by
  unfold lieOf
  rcases ok_cases h with ⟨hk, h1, h2, _⟩ | ⟨hk, _, _, _, hf⟩ | ⟨hk, _⟩ | ⟨h1, h2, _⟩
  · rw [if_pos hk, if_pos hk, e _ (by omega)]
  · have hf' : ∀ j, j < x.nf → fl x L j = fl x M j := fun j hj => by unfold fl; exact e _ (by have := hf j hj; omega)
    have h12 : ¬ x.kind = 12 := by omega
    rw [if_neg h12, if_neg h12, if_pos hk, if_pos hk, en_congr hf', al_congr hf', ws_congr hf', ar_congr hf']
  · have h12 : ¬ x.kind = 12 := by omega
    have h13 : ¬ x.kind = 13 := by omega
    rw [if_neg h12, if_neg h12, if_neg h13, if_neg h13]
  · have h12 : ¬ x.kind = 12 := by omega
    have h13 : ¬ x.kind = 13 := by omega
    rw [if_neg h12, if_neg h12, if_neg h13, if_neg h13]
/-- how the first n entries lie -/
def lies (T : Nat → TyV) : Nat → Nat → Li
  | 0 => fun _ => li0
  | n + 1 => fun i => if i = n then lieOf (T n) (lies T n) else lies T n i
/-- how an entry lies -/
def lie (T : Nat → TyV) (i : Nat) : Li := lies T (i + 1) i
theorem lies_lie (T : Nat → TyV) : ∀ {n i : Nat}, i < n → lies T n i = lie T i
  | n + 1, i, h => by
    by_cases e : i = n
    · subst e; rfl
    · show (if i = n then _ else _) = _
      rw [if_neg e]
      exact lies_lie T (by omega)
theorem lie_eq {T : Nat → TyV} {i n : Nat} (h : okB (T i) i n = true) : lie T i = lieOf (T i) (lie T) := by
  show (if i = i then _ else _) = _
  rw [if_pos rfl]
  exact lieOf_congr h fun j hj => lies_lie T hj
/-- so many entries may stand, none of them large -/
def Fine (T : Nat → TyV) (n i : Nat) : Prop := ∀ j, j < i → okB (T j) j n = true ∧ (lie T j).size ≤ 65536
/-- an alignment -/
def Al (a : Int) : Prop := a = 1 ∨ a = 2 ∨ a = 4 ∨ a = 8
theorem Al.pos {a : Int} (h : Al a) : 1 ≤ a := by rcases h with rfl | rfl | rfl | rfl <;> omega
theorem Al.le {a : Int} (h : Al a) : a ≤ 8 := by rcases h with rfl | rfl | rfl | rfl <;> omega
theorem up_spec {n a : Int} (ha : Al a) : n ≤ up n a ∧ up n a < n + a ∧ up n a % a = 0 := by
  unfold up
  rcases ha with rfl | rfl | rfl | rfl <;> omega
theorem Al.max {a b : Int} (ha : Al a) (hb : Al b) : Al (max a b) := by
  unfold Al at *
  omega
/-- what is told of an entry that may stand -/
structure Good (l : Li) : Prop where
  al : Al l.align
  w0 : 0 ≤ l.words
  ws : l.words ≤ l.size
  md : l.size % l.align = 0
theorem al_al {x : TyV} {L : Nat → Li} : ∀ {k : Nat}, (∀ j, j < k → Good (fl x L j)) → Al (al x L k)
  | 0, _ => .inl rfl
  | k + 1, h => (al_al fun j hj => h j (by omega)).max (h k (by omega)).al
theorem en_spec {x : TyV} {L : Nat → Li} : ∀ {k : Nat}, (∀ j, j < k → Good (fl x L j) ∧ (fl x L j).size ≤ 65536) → 0 ≤ ws x L k ∧ ws x L k ≤ en x L k ∧ en x L k ≤ 65544 * k
  | 0, _ => by simp [ws, en]
  | k + 1, h => by
    obtain ⟨h1, h2, h3⟩ := en_spec (k := k) fun j hj => h j (by omega)
    obtain ⟨hg, hs⟩ := h k (by omega)
    have hu := up_spec (n := en x L k) hg.al
    have := hg.al.le
    have := hg.w0
    have := hg.ws
    rw [ws, en]
    refine ⟨by omega, by omega, ?_⟩
    push_cast
    omega
theorem by_al {k : Int} (h1 : 1 ≤ k) (h2 : k ≤ 11) : Al (Wd.by' k) := by
  have : k = 1 ∨ k = 2 ∨ k = 3 ∨ k = 4 ∨ k = 5 ∨ k = 6 ∨ k = 7 ∨ k = 8 ∨ k = 9 ∨ k = 10 ∨ k = 11 := by omega
  rcases this with rfl | rfl | rfl | rfl | rfl | rfl | rfl | rfl | rfl | rfl | rfl <;> simp [Al, Wd.by', Wd.wid]
theorem mul_mod {n s a : Int} (h : s % a = 0) : n * s % a = 0 := by
  rw [Int.mul_emod, h]; simp
theorem lieOf_good {x : TyV} {L : Nat → Li} {i n : Nat} (h : okB x i n = true) (hL : ∀ j, j < i → Good (L j) ∧ (L j).size ≤ 65536) : Good (lieOf x L) ∧ (lieOf x L).size ≤ 4294967296 := by
  unfold lieOf
  rcases ok_cases h with ⟨hk, h1, h2, h3, h4, _⟩ | ⟨hk, _, _, h16, hf⟩ | ⟨hk, _⟩ | ⟨h1, h2, _⟩
  · rw [if_pos hk]
    obtain ⟨hg, hs⟩ := hL x.elem.toNat (by omega)
    have h0 : 0 ≤ (L x.elem.toNat).size := by have := hg.w0; have := hg.ws; omega
    refine ⟨⟨hg.al, Int.le_refl _, Int.mul_nonneg h3 h0, mul_mod hg.md⟩, ?_⟩
    show x.n * _ ≤ _
    have := Int.mul_le_mul h4 hs h0 (by omega)
    omega
  · rw [if_neg (by omega), if_pos hk]
    have hf' : ∀ j, j < x.nf → Good (fl x L j) ∧ (fl x L j).size ≤ 65536 := fun j hj => hL _ (by have := hf j hj; omega)
    obtain ⟨e1, e2, e3⟩ := en_spec hf'
    have ha := al_al fun j hj => (hf' j hj).1
    have hu := up_spec (n := en x L x.nf) ha
    have := ha.le
    refine ⟨⟨ha, e1, ?_, hu.2.2⟩, ?_⟩
    · show ws x L x.nf ≤ up _ _
      omega
    · show up _ _ ≤ _
      omega
  · rw [if_neg (by omega), if_neg (by omega), if_pos hk]
    exact ⟨⟨.inr (.inr (.inr rfl)), by show (0 : Int) ≤ 2; omega, by show (2 : Int) ≤ 16; omega, rfl⟩, by show (16 : Int) ≤ _; omega⟩
  · rw [if_neg (by omega), if_neg (by omega), if_neg (by omega)]
    have := by_al h1 h2
    have h3 := this.pos
    have h4 := this.le
    exact ⟨⟨this, by show (0 : Int) ≤ 1; omega, h3, by show Wd.by' x.kind % Wd.by' x.kind = 0; exact Int.emod_self⟩, by show Wd.by' x.kind ≤ _; omega⟩
theorem Fine.mono {T : Nat → TyV} {n i j : Nat} (h : Fine T n i) (hj : j ≤ i) : Fine T n j := fun k hk => h k (by omega)
theorem Fine.good {T : Nat → TyV} {n : Nat} : ∀ {i : Nat}, Fine T n i → ∀ j, j < i → Good (lie T j) ∧ (lie T j).size ≤ 65536
  | 0, _, _, h => by omega
  | i + 1, h, j, hj => by
    by_cases e : j < i
    · exact Fine.good (h.mono (by omega)) j e
    · obtain rfl : j = i := by omega
      refine ⟨?_, (h j (by omega)).2⟩
      rw [lie_eq (h j (by omega)).1]
      exact (lieOf_good (h j (by omega)).1 fun k hk => Fine.good (h.mono (by omega)) k hk).1
theorem Fine.next {T : Nat → TyV} {n i : Nat} (h : Fine T n i) (ho : okB (T i) i n = true) : Good (lie T i) ∧ (lie T i).size ≤ 4294967296 := by
  rw [lie_eq ho]
  exact lieOf_good ho h.good
end Ty
end Go.Proofs.Ytdfjaedafampaaa
