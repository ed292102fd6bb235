/- Contracts and plain facts that the walks share, text by text: RuInv, RuSrc, LkPsi, RuLate, LkLong, LkWl. -/
import Derived.Test.YtkiockffejlnhaaGreatDoorG7
import Derived.Deep.DeepCutAuto
/- A region that draws its order, whose head's operations each establish what is known of their own value, whatever came ahead: calls and allocations among them may be anywhere. -/
namespace Go.Proofs.YtkiockffejlnhaaGreatDoor
open Go.RowKit
set_option linter.unusedVariables false
section
variable {P : Program} {ops : Array Oper}
def dstOf (ops : Array Oper) (i : Nat) : Option Tmp := (ops[i]?).bind (·.dst)
def frV (ops : Array Oper) (a0 : Act) (V : Nat → Value) : Nat → Act
  | 0 => a0
  | i + 1 => (frV ops a0 V i).put (dstOf ops i) (V i)
def depsOf (ops : Array Oper) (i : Nat) : List Nat := (List.range i).filter fun j => Region.waitsFor .any ops i j
def lookB (ops : Array Oper) (n : Nat) : Bool :=
  (List.range n).all fun i => match ops[i]? with
    | none => false
    | some o => o.guard.isNone && (o.looksAt ops).all fun t => (List.range n).all fun k => !(dstOf ops k == some t) || (decide (k < i) && Region.waitsFor .any ops i k)
theorem lookB_spec {n i : Nat} {o : Oper} (h : lookB ops n = true) (hi : i < n) (ho : ops[i]? = some o) : o.guard = none ∧ ∀ t, t ∈ o.looksAt ops → ∀ k, k < n → dstOf ops k = some t → k < i ∧ Region.waitsFor .any ops i k = true := by
  have h1 := List.all_eq_true.1 h i (List.mem_range.2 hi)
  simp only [ho, Bool.and_eq_true, Option.isNone_iff_eq_none, List.all_eq_true, List.mem_range, Bool.or_eq_true, Bool.not_eq_true', beq_eq_false_iff_ne, decide_eq_true_eq] at h1
  refine ⟨h1.1, fun t ht k hk hd => ?_⟩
  rcases h1.2 t ht k hk with h2 | h2
  · exact absurd hd h2
  · exact h2
structure FrInv (ops : Array Oper) (n : Nat) (a0 : Act) (Ψ : Nat → Value → World → Prop) (listed : Array Bool) (a : Act) (w : World) : Prop where
  size : a.tmps.size = a0.tmps.size
  defers : a.defers = a0.defers
  old : ∀ s, (∀ i, i < n → listed.getD i false = true → dstOf ops i ≠ some s) → a.tmps[s]? = a0.tmps[s]?
  val : ∀ i d, i < n → listed.getD i false = true → dstOf ops i = some d → Ψ i (a.tmps.getD d undef) w
  non : ∀ i, i < n → listed.getD i false = true → dstOf ops i = none → Ψ i undef w
def valOf (ops : Array Oper) (a : Act) (i : Nat) : Value := match dstOf ops i with | some d => a.tmps.getD d undef | none => undef
theorem put_size (a : Act) (d : Option Tmp) (v : Value) : (a.put d v).tmps.size = a.tmps.size := by cases d <;> simp [Act.put]
theorem put_same (a : Act) (d : Tmp) (v : Value) (h : d < a.tmps.size) : (a.put (some d) v).tmps[d]? = some v := by simp [Act.put, h]
theorem put_other (a : Act) {d : Option Tmp} {s : Nat} (v : Value) (h : d ≠ some s) : (a.put d v).tmps[s]? = a.tmps[s]? := by
  cases d with
  | none => rfl
  | some d =>
    have : d ≠ s := fun e => h (by rw [e])
    simp [Act.put, Array.getElem?_setIfInBounds_ne this]
theorem frV_size (a0 : Act) (V : Nat → Value) (i : Nat) : (frV ops a0 V i).tmps.size = a0.tmps.size := by
  induction i with
  | zero => rfl
  | succ i ih => rw [frV, put_size]; exact ih
theorem frV_defers (a0 : Act) (V : Nat → Value) (i : Nat) : (frV ops a0 V i).defers = a0.defers := by
  induction i with
  | zero => rfl
  | succ i ih => rw [frV, put_defers]; exact ih
theorem frV_in (a0 a : Act) (hs : a.tmps.size = a0.tmps.size) (i : Nat) : ∀ s, (∃ j, j < i ∧ dstOf ops j = some s) → s < a0.tmps.size → (frV ops a0 (valOf ops a) i).tmps[s]? = a.tmps[s]? := by
  induction i with
  | zero => rintro s ⟨j, hj, _⟩; omega
  | succ i ih =>
    rintro s ⟨j, hj, hd⟩ hlt
    rw [frV]
    by_cases he : dstOf ops i = some s
    · rw [he, put_same _ _ _ (by rw [frV_size]; exact hlt)]
      unfold valOf
      rw [he]
      simp [hs, hlt]
    · rw [put_other _ _ he]
      refine ih s ⟨j, ?_, hd⟩ hlt
      rcases Nat.lt_succ_iff_lt_or_eq.1 hj with h | h
      · exact h
      · subst h; exact absurd hd he
theorem frV_out (a0 : Act) (V : Nat → Value) (i : Nat) : ∀ s, (∀ j, j < i → dstOf ops j ≠ some s) → (frV ops a0 V i).tmps[s]? = a0.tmps[s]? := by
  induction i with
  | zero => intro s _; rfl
  | succ i ih =>
    intro s h
    rw [frV, put_other _ _ (h i (by omega))]
    exact ih s fun j hj => h j (by omega)
def stepV (P : Program) (ops : Array Oper) (Ψ : Nat → Value → World → Prop) (i : Nat) (a : Act) (w : World) : Prop :=
  match ops[i]? with
  | none => False
  | some o => match (execOp a.eval o).run P w with
    | .ok (.value v) w' => w.grownBy w' none ∧ Ψ i v w'
    | .ok .skip w' => w.grownBy w' none ∧ Ψ i undef w'
    | .ok (.enter f args) w' => Calls P f args w' (fun e w'' => ∃ v, e = .returned v ∧ w.grownBy w'' none ∧ Ψ i v w'')
    | _ => False
def dstB (ops : Array Oper) (n sz : Nat) : Bool :=
  (List.range n).all fun i => (match dstOf ops i with | some d => decide (d < sz) | none => false) && (List.range n).all fun j => i == j || dstOf ops i == none || !(dstOf ops i == dstOf ops j)
theorem dstB_lt {n sz i d : Nat} (h : dstB ops n sz = true) (hi : i < n) (hd : dstOf ops i = some d) : d < sz := by
  have h1 := List.all_eq_true.1 h i (List.mem_range.2 hi)
  simp only [hd, Bool.and_eq_true, decide_eq_true_eq] at h1
  exact h1.1
theorem dstB_some {n sz i : Nat} (h : dstB ops n sz = true) (hi : i < n) : dstOf ops i ≠ none := by
  have h1 := List.all_eq_true.1 h i (List.mem_range.2 hi)
  intro e
  simp [e] at h1
theorem dstB_ne {n sz i j d : Nat} (h : dstB ops n sz = true) (hi : i < n) (hj : j < n) (hij : i ≠ j) (hd : dstOf ops i = some d) : dstOf ops j ≠ some d := by
  have h1 := List.all_eq_true.1 h i (List.mem_range.2 hi)
  simp only [Bool.and_eq_true] at h1
  have h2 := List.all_eq_true.1 h1.2 j (List.mem_range.2 hj)
  simp only [hd, Bool.or_eq_true, beq_iff_eq, hij, false_or, Bool.not_eq_true', beq_eq_false_iff_ne] at h2
  rcases h2 with h2 | h2
  · simp at h2
  · exact fun e => h2 e.symm
def lexed (m : Nat) : Nat → Array Bool
  | 0 => Array.replicate m false
  | k + 1 => (lexed m k).setIfInBounds k true
theorem lexed_size (m k : Nat) : (lexed m k).size = m := by
  induction k with
  | zero => simp [lexed]
  | succ k ih => simp [lexed, ih]
theorem lexed_get (m : Nat) : ∀ k j, j < m → (lexed m k).getD j false = decide (j < k) := by
  intro k
  induction k with
  | zero => intro j hj; simp [lexed, hj]
  | succ k ih =>
    intro j hj
    by_cases hkj : k = j
    · subst hkj
      have : k < (lexed m k).size := by rw [lexed_size]; exact hj
      simp [lexed, this]
    · rw [lexed, getD_set_ne false hkj, ih j hj]
      simp; omega
theorem lexHead_at {md : Region.Mode} {g : Nat} (m : Nat) : ∀ f k, Region.lexHead md ops g f k (lexed m k) = true → ∀ j, k ≤ j → j < k + f → j ∈ Region.ready md ops (lexed m j) := by
  intro f
  induction f with
  | zero => intro k _ j h1 h2; omega
  | succ f ih =>
    intro k h j h1 h2
    simp only [Region.lexHead, Bool.and_eq_true] at h
    by_cases hj : j = k
    · subst hj; simpa using h.1.1
    · exact ih (k + 1) h.2 j (by omega) (by omega)
theorem lexHead_end {md : Region.Mode} {g : Nat} (m : Nat) : ∀ f k, Region.lexHead md ops g f k (lexed m k) = true → Region.seqB md ops g (k + f) (lexed m (k + f)) = true := by
  intro f
  induction f with
  | zero => intro k h; exact h
  | succ f ih =>
    intro k h
    simp only [Region.lexHead, Bool.and_eq_true] at h
    have := ih (k + 1) h.2
    rwa [show k + 1 + f = k + (f + 1) by omega] at this
def left (listed : Array Bool) (n : Nat) : Nat := ((List.range n).filter fun i => !listed.getD i false).length
theorem left_set {listed : Array Bool} {n i : Nat} (hi : i < n) (h : listed.getD i true = false) : left listed n = left (listed.setIfInBounds i true) n + 1 := by
  have hlt : i < listed.size := by
    rcases Nat.lt_or_ge i listed.size with h' | h'
    · exact h'
    · simp [Array.getElem?_eq_none h'] at h
  unfold left
  induction n with
  | zero => omega
  | succ n ih =>
    rw [List.range_succ, List.filter_append, List.filter_append, List.length_append, List.length_append]
    by_cases hin : i = n
    · subst hin
      have e1 : (List.range i).filter (fun j => !listed.getD j false) = (List.range i).filter (fun j => !(listed.setIfInBounds i true).getD j false) := by
        refine List.filter_congr fun j hj => ?_
        rw [getD_set_ne false (by have := List.mem_range.1 hj; omega)]
      rw [e1]
      have e2 : (listed.setIfInBounds i true).getD i false = true := by simp [hlt]
      have e3 : listed.getD i false = false := getD_both h
      have e4 : List.filter (fun j => !listed.getD j false) [i] = [i] := by simp only [List.filter_cons, e3]; rfl
      have e5 : List.filter (fun j => !(listed.setIfInBounds i true).getD j false) [i] = [] := by simp only [List.filter_cons, e2]; rfl
      rw [e4, e5]
      rfl
    · rw [ih (by omega)]
      have e6 : List.filter (fun j => !(listed.setIfInBounds i true).getD j false) [n] = List.filter (fun j => !listed.getD j false) [n] := by simp only [List.filter_cons, List.filter_nil, getD_set_ne false hin]
      rw [e6]
      omega
theorem left_zero {listed : Array Bool} {n : Nat} (h : left listed n = 0) : ∀ i, i < n → listed.getD i false = true := by
  intro i hi
  unfold left at h
  have := List.eq_nil_of_length_eq_zero h
  have h2 := List.filter_eq_nil_iff.1 this i (List.mem_range.2 hi)
  simpa using h2
theorem left_pos {listed : Array Bool} {n : Nat} (h : left listed n ≠ 0) : ∃ i, i < n ∧ listed.getD i false = false ∧ ∀ j, j < i → listed.getD j false = true := by
  have hex : ∃ i, i < n ∧ listed.getD i false = false := by
    refine Classical.byContradiction fun hno => h ?_
    unfold left
    rw [List.length_eq_zero_iff, List.filter_eq_nil_iff]
    intro i hi
    have : listed.getD i false ≠ false := fun e => hno ⟨i, List.mem_range.1 hi, e⟩
    simpa using this
  obtain ⟨i, hi⟩ := hex
  induction i using Nat.strongRecOn with
  | _ i ih =>
    by_cases hall : ∀ j, j < i → listed.getD j false = true
    · exact ⟨i, hi.1, hi.2, hall⟩
    · have : ∃ j, j < i ∧ listed.getD j false = false := by
        refine Classical.byContradiction fun hno => hall fun j hj => ?_
        have : listed.getD j false ≠ false := fun e => hno ⟨j, hj, e⟩
        simpa using this
      obtain ⟨j, hj, hjf⟩ := this
      exact ih j hj ⟨by omega, hjf⟩
theorem waits_listed {listed : Array Bool} {i j : Nat} (hr : i ∈ Region.ready .any ops listed) (h : Region.waitsFor .any ops i j = true) : listed.getD j false = true := by
  obtain ⟨_, o, ho, hall⟩ := mem_ready.1 hr
  obtain ⟨o', ho', e, he, hb, hon⟩ := Region.waitsFor_spec h
  obtain rfl : o' = o := Option.some.inj (ho'.symm.trans ho)
  rw [← hon]
  exact hall e he hb
theorem eval_same {a b : Act} {x : Operand} (h : ∀ t, x = .tmp t → a.tmps[t]? = b.tmps[t]?) : a.eval x = b.eval x := by
  cases x with
  | tmp t =>
    have := h t rfl
    simp only [Act.eval, Array.getD_eq_getD_getElem?, this]
  | _ => rfl
theorem any_of_inv {n : Nat} {a0 : Act} {W : World} {Q : Exit → Act → World → Prop} {Ψ : Nat → Value → World → Prop} {l : List Oper} (hl : ops = l.toArray)
    (hst : ∀ i v w w', i < n → Ψ i v w → w.grownBy w' none → Ψ i v w')
    (hsel : Region.noSelect ops = true) (hn : n < ops.size) (hs : Region.sinkB .any ops n = true) (hc : Region.chainB .any ops n = true) (hlex : Region.lexHead .any ops (ops.size - n) n 0 (lexed ops.size 0) = true)
    (hL : lookB ops n = true) (hD : dstB ops n a0.tmps.size = true)
    (hstep : ∀ i, i < n → ∀ V w', W.grownBy w' none → (∀ j, (depsOf ops i).contains j = true → Ψ j (V j) w') → stepV P ops Ψ i (frV ops a0 V i) w')
    (hend : ∀ V w', W.grownBy w' none → (∀ i, i < n → Ψ i (V i) w') → wpList P ops Q (l.drop n) (frV ops a0 V n) w') (f : Nat) :
    ∀ listed a w, left listed n = f → HeadInv .any ops n listed → FrInv ops n a0 Ψ listed a w → W.grownBy w none → wpAny P .any ops Q (f + (ops.size - n)) listed a w := by
  have hval : ∀ {listed a w i}, FrInv ops n a0 Ψ listed a w → i < n → listed.getD i false = true → Ψ i (valOf ops a i) w := by
    intro listed a w i inv hi hli
    unfold valOf
    cases hd : dstOf ops i with
    | none => exact inv.non i hi hli hd
    | some d => exact inv.val i d hi hli hd
  induction f with
  | zero =>
    intro listed a w hf hinv inv hg
    have hall := left_zero hf
    have ea : a = frV ops a0 (valOf ops a) n := by
      obtain ⟨tm, df⟩ := a
      have h1 : tm = (frV ops a0 (valOf ops ⟨tm, df⟩) n).tmps := by
        apply Array.ext_getElem?
        intro s
        by_cases hex : ∃ j, j < n ∧ dstOf ops j = some s
        · obtain ⟨j, hj, hd⟩ := hex
          exact (frV_in a0 ⟨tm, df⟩ inv.size n s ⟨j, hj, hd⟩ (dstB_lt hD hj hd)).symm
        · have hno : ∀ j, j < n → dstOf ops j ≠ some s := fun j hj hd => hex ⟨j, hj, hd⟩
          rw [frV_out a0 _ n s hno]
          exact inv.old s fun i hi _ => hno i hi
      have h2 : df = (frV ops a0 (valOf ops ⟨tm, df⟩) n).defers := by rw [frV_defers]; exact inv.defers
      generalize frV ops a0 (valOf ops ⟨tm, df⟩) n = b at *
      obtain ⟨bt, bd⟩ := b
      simp_all
    have el : listed = lexed ops.size n := by
      apply Array.ext
      · rw [lexed_size]; exact hinv.size
      · intro i h1 h2
        have e1 := lexed_get ops.size n i (by rw [← hinv.size]; exact h1)
        by_cases hin : i < n
        · have e2 := hall i hin
          have : (lexed ops.size n).getD i false = true := by rw [e1]; simp [hin]
          simp [h1, h2] at e2 this
          rw [e2, this]
        · have e2 := getD_both (hinv.tail i (by omega) (by rw [← hinv.size]; exact h1))
          have : (lexed ops.size n).getD i false = false := by rw [e1]; simp [hin]
          simp [h1, h2] at e2 this
          rw [e2, this]
    have hw := hend (valOf ops a) w hg fun i hi => hval inv hi (hall i hi)
    rw [← ea] at hw
    have hse := lexHead_end ops.size n 0 (by simpa using hlex)
    rw [Nat.zero_add] at hse
    have hdl : (l.drop n).length = ops.size - n := by rw [hl]; simp
    have T := wpAny_of_seq (md := .any) (P := P) (ops := ops) (Q' := Q) (l.drop n) n listed a w (fun j => by rw [hl]; simp [List.getElem?_drop]) (by rw [hdl, el]; exact hse) hw
    rw [hdl] at T
    rw [Nat.zero_add]
    exact T
  | succ f ih =>
    intro listed a w hf hinv inv hg
    obtain ⟨k, hk, hkf, hkall⟩ := left_pos (by rw [hf]; exact Nat.succ_ne_zero f)
    have hkt : listed.getD k true = false := getD_in (by rw [hinv.size]; omega) hkf
    have hkr : k ∈ Region.ready .any ops listed := by
      have h0 := lexHead_at ops.size n 0 (by simpa using hlex) k (Nat.zero_le _) (by omega)
      obtain ⟨_, o, ho, hall⟩ := mem_ready.1 h0
      refine mem_ready.2 ⟨hkt, o, ho, fun e he hb => ?_⟩
      have h1 := hall e he hb
      have h2 : e.on < ops.size := by
        rcases Nat.lt_or_ge e.on (lexed ops.size k).size with h' | h'
        · rw [lexed_size] at h'; exact h'
        · simp [Array.getElem?_eq_none h'] at h1
      rw [lexed_get ops.size k e.on h2] at h1
      exact hkall e.on (by simpa using h1)
    rw [Nat.add_right_comm]
    refine ⟨fun h0 => absurd h0 (List.ne_nil_of_mem hkr), fun i hi => ?_⟩
    have hin : i < n := Nat.lt_of_not_le fun h => tail_waits hs hc hn hinv _ k rfl hk hkt i h hi
    obtain ⟨hiun, o, ho, hall⟩ := mem_ready.1 hi
    obtain ⟨hgd, hlk⟩ := lookB_spec hL hin ho
    have hd : dstOf ops i = o.dst := by unfold dstOf; rw [ho]; rfl
    have S := hstep i hin (valOf ops a) w hg fun j hj => by
      have hj' := List.mem_filter.1 (show j ∈ depsOf ops i by simpa using hj)
      have hlt := List.mem_range.1 hj'.1
      exact hval inv (by omega) (waits_listed hi hj'.2)
    unfold stepV at S
    simp only [ho] at S
    have hex : execOp a.eval o = execOp (frV ops a0 (valOf ops a) i).eval o := by
      refine execOp_congr o (fun cs b => Region.noSelect_spec hsel i o cs b ho) fun x hx => eval_same fun t ht => ?_
      subst ht
      have htl : t ∈ o.looksAt ops := List.mem_append_left _ (List.mem_filterMap.2 ⟨.tmp t, by simpa using hx, rfl⟩)
      by_cases hexi : ∃ j, j < n ∧ dstOf ops j = some t
      · obtain ⟨j, hj, hdj⟩ := hexi
        obtain ⟨hji, _⟩ := hlk t htl j hj hdj
        exact (frV_in a0 a inv.size i t ⟨j, hji, hdj⟩ (dstB_lt hD hj hdj)).symm
      · have hno : ∀ j, j < n → dstOf ops j ≠ some t := fun j hj hd => hexi ⟨j, hj, hd⟩
        rw [frV_out a0 _ i t fun j hj => hno j (by omega)]
        exact inv.old t fun j hj _ => hno j hj
    have next : ∀ v w', w.grownBy w' none → Ψ i v w' → wpAny P .any ops Q (f + (ops.size - n)) (listed.setIfInBounds i true) (a.put o.dst v) w' := by
      intro v w' hg' hv
      have hlf : left (listed.setIfInBounds i true) n = f := by have := left_set hin hiun; omega
      refine ih _ _ _ hlf (hinv.set hi hin) ?_ (grown_trans hg hg')
      have hset : ∀ j, j ≠ i → (listed.setIfInBounds i true).getD j false = true → listed.getD j false = true := fun j hj h => by rwa [getD_set_ne false (Ne.symm hj)] at h
      refine ⟨(put_size _ _ _).trans inv.size, (put_defers _ _ _).trans inv.defers, fun s hs' => ?_, fun j d hj hjl hjd => ?_, fun j hj hjl hjd => ?_⟩
      · have h1 : dstOf ops i ≠ some s := hs' i hin (by
          have : i < listed.size := by rw [hinv.size]; omega
          simp [this])
        rw [put_other _ _ (by rw [← hd]; exact h1)]
        exact inv.old s fun j hj hjl => hs' j hj (getD_set_true hjl)
      · by_cases hji : j = i
        · subst hji
          have e : o.dst = some d := by rw [← hd]; exact hjd
          rw [e]
          have hlt : d < a.tmps.size := by rw [inv.size]; exact dstB_lt hD hin hjd
          have := put_same a d v hlt
          rw [Array.getD_eq_getD_getElem?, this]
          exact hv
        · have hne : o.dst ≠ some d := by rw [← hd]; exact dstB_ne hD hj hin hji hjd
          have := put_other a v hne
          rw [Array.getD_eq_getD_getElem?, this, ← Array.getD_eq_getD_getElem?]
          exact hst _ _ _ _ hj (inv.val j d hj (hset j hji hjl) hjd) hg'
      · by_cases hji : j = i
        · subst hji
          exact absurd hjd (dstB_some hD hin)
        · exact hst _ _ _ _ hj (inv.non j hj (hset j hji hjl) hjd) hg'
    unfold wpOp
    simp only [ho]
    have hwa : Region.wanted o (yielded ops a.tmps) = true := by unfold Region.wanted; rw [hgd]
    rw [if_pos hwa]
    refine .inl ?_
    unfold Oper.wp
    rw [hex]
    generalize (execOp (frV ops a0 (valOf ops a) i).eval o).run P w = r at S
    match r, S with
    | .ok (.value v) w', S => exact next v w' S.1 S.2
    | .ok .skip w', S => exact next undef w' S.1 S.2
    | .ok (.enter fn args) w', S =>
      rw [Oper.upon_enter]
      refine Calls.mono S ?_
      rintro e w'' ⟨v, rfl, h1, h2⟩
      exact next v w'' h1 h2
theorem region_inv {id : Nat} {Q : Exit → Act → World → Prop} {a : Act} {w : World} {l : List Oper} (n : Nat) (Ψ : Nat → Value → World → Prop)
    (hm : P.follows .mixedOrders = true) (hB : Region.lexTailB .any l.toArray n = true) (hL : lookB l.toArray n = true) (hD : dstB l.toArray n a.tmps.size = true)
    (hst : ∀ i v w w', i < n → Ψ i v w → w.grownBy w' none → Ψ i v w')
    (hstep : ∀ i, i < n → ∀ V w', w.drew.grownBy w' none → (∀ j, (depsOf l.toArray i).contains j = true → Ψ j (V j) w') → stepV P l.toArray Ψ i (frV l.toArray a V i) w')
    (hend : ∀ V w', w.drew.grownBy w' none → (∀ i, i < n → Ψ i (V i) w') → wpList P l.toArray Q (l.drop n) (frV l.toArray a V n) w') : (Code.region id l.toArray true).wp P Q a w := by
  simp only [Region.lexTailB, Bool.and_eq_true, decide_eq_true_eq] at hB
  obtain ⟨⟨⟨⟨hsel, hn⟩, hs⟩, hc⟩, hlex⟩ := hB
  have inv0 : HeadInv .any l.toArray n (Array.replicate l.toArray.size false) :=
    ⟨by simp, fun j oj _ hl => (by rw [getD_replicate_false] at hl; cases hl), fun t _ ht => getD_in (by simpa using ht) (getD_replicate_false _ _)⟩
  have hl0 : left (Array.replicate l.toArray.size false) n = n := by
    unfold left
    rw [List.filter_eq_self.2 fun i _ => by rw [getD_replicate_false]; rfl]
    simp
  have fr0 : FrInv l.toArray n a Ψ (Array.replicate l.toArray.size false) a w.drew :=
    ⟨rfl, rfl, fun _ _ => rfl, fun i d _ h => (by rw [getD_replicate_false] at h; cases h), fun i _ h => (by rw [getD_replicate_false] at h; cases h)⟩
  have T := any_of_inv (P := P) (Q := Q) (ops := l.toArray) (n := n) (a0 := a) (W := w.drew) (Ψ := Ψ) rfl hst hsel hn hs hc (by simpa [lexed] using hlex) hL hD hstep hend n _ a w.drew hl0 inv0 fr0 (World.grownBy.refl _ _)
  rw [show n + (l.toArray.size - n) = l.toArray.size by omega] at T
  exact wp_region_any hm T
end
end Go.Proofs.YtkiockffejlnhaaGreatDoor

/- What an operation of a region reads: where its operands come from. -/
namespace Go.Proofs.YtkiockffejlnhaaGreatDoor
open Go.RowKit
set_option linter.unusedVariables false
def srcOf (ops : Array Oper) (t : Nat) : Nat → Option Nat
  | 0 => none
  | i + 1 => if dstOf ops i = some t then some i else srcOf ops t i
theorem frV_at {ops : Array Oper} {a : Act} {V : Nat → Value} {t j : Nat} (ht : t < a.tmps.size) : ∀ {i : Nat}, srcOf ops t i = some j → (frV ops a V i).tmps[t]? = some (V j)
  | 0, h => by cases h
  | i + 1, h => by
    unfold srcOf at h
    show ((frV ops a V i).put (dstOf ops i) (V i)).tmps[t]? = some (V j)
    by_cases hd : dstOf ops i = some t
    · rw [if_pos hd] at h
      obtain rfl : i = j := Option.some.inj h
      rw [hd, put_same _ _ _ (by rw [frV_size]; exact ht)]
    · rw [if_neg hd] at h
      rw [put_other _ _ hd]
      exact frV_at ht h
theorem frV_at0 {ops : Array Oper} {a : Act} {V : Nat → Value} {t : Nat} : ∀ {i : Nat}, srcOf ops t i = none → (frV ops a V i).tmps[t]? = a.tmps[t]?
  | 0, _ => rfl
  | i + 1, h => by
    unfold srcOf at h
    show ((frV ops a V i).put (dstOf ops i) (V i)).tmps[t]? = _
    by_cases hd : dstOf ops i = some t
    · rw [if_pos hd] at h; cases h
    · rw [if_neg hd] at h
      rw [put_other _ _ hd]
      exact frV_at0 h
section
variable {P : Program}
def outO (P : Program) (Ψ : Nat → Value → World → Prop) (i : Nat) (w : World) : Result Next → Prop
  | .ok (.value v) w' => w.grownBy w' none ∧ Ψ i v w'
  | .ok .skip w' => w.grownBy w' none ∧ Ψ i undef w'
  | .ok (.enter f args) w' => Calls P f args w' (fun e w'' => ∃ v, e = .returned v ∧ w.grownBy w'' none ∧ Ψ i v w'')
  | _ => False
theorem outO_val {Ψ : Nat → Value → World → Prop} {i : Nat} {w w' : World} {v : Value} {r : Result Next} (hr : r = .ok (.value v) w') (hg : w.grownBy w' none) (hv : Ψ i v w') : outO P Ψ i w r := by
  rw [hr]; exact ⟨hg, hv⟩
theorem outO_call {Ψ : Nat → Value → World → Prop} {i : Nat} {w : World} {f : FuncId} {args : Array Value} {r : Result Next} (hr : r = .ok (.enter f args) w) (hc : Calls P f args w fun e w'' => ∃ v, e = .returned v ∧ w.grownBy w'' none ∧ Ψ i v w'') : outO P Ψ i w r := by
  rw [hr]; exact hc
def stepO (P : Program) (ops : Array Oper) (a : Act) (w : World) (Ψ : Nat → Value → World → Prop) (i : Nat) (o : Oper) : Prop :=
  ∀ (V : Nat → Value) (w' : World) (A : Act), w.drew.grownBy w' none → (∀ j, (depsOf ops i).contains j = true → Ψ j (V j) w') → (∀ t j, srcOf ops t i = some j → decide (t < a.tmps.size) = true → A.tmps[t]? = some (V j)) →
    (∀ t v, srcOf ops t i = none → a.tmps[t]? = some v → A.tmps[t]? = some v) → outO P Ψ i w' ((execOp A.eval o).run P w')
def stepsO (P : Program) (ops : Array Oper) (a : Act) (w : World) (Ψ : Nat → Value → World → Prop) : Nat → List Oper → Prop
  | _, [] => True
  | i, o :: rest => stepO P ops a w Ψ i o ∧ stepsO P ops a w Ψ (i + 1) rest
theorem stepsO_get {ops : Array Oper} {a : Act} {w : World} {Ψ : Nat → Value → World → Prop} : ∀ {l : List Oper} {k i : Nat} {o : Oper}, stepsO P ops a w Ψ k l → l[i]? = some o → stepO P ops a w Ψ (k + i) o
  | [], _, _, _, _, h => by simp at h
  | x :: l, k, 0, o, hs, h => by
    obtain rfl : x = o := by simpa using h
    exact hs.1
  | x :: l, k, i + 1, o, hs, h => by
    have := stepsO_get (i := i) hs.2 (by simpa using h)
    rwa [show k + 1 + i = k + (i + 1) by omega] at this
theorem region_src {id : Nat} {Q : Exit → Act → World → Prop} {a : Act} {w : World} {l : List Oper} (n : Nat) (Ψ : Nat → Value → World → Prop)
    (hm : P.follows .mixedOrders = true) (hB : Region.lexTailB .any l.toArray n = true) (hL : lookB l.toArray n = true) (hD : dstB l.toArray n a.tmps.size = true)
    (hst : ∀ i v w w', i < n → Ψ i v w → w.grownBy w' none → Ψ i v w')
    (hstep : stepsO P l.toArray a w Ψ 0 (l.take n))
    (hend : ∀ V w', w.drew.grownBy w' none → (∀ i, i < n → Ψ i (V i) w') → wpList P l.toArray Q (l.drop n) (frV l.toArray a V n) w') : (Code.region id l.toArray true).wp P Q a w := by
  have hn : n < l.length := by
    simp only [Region.lexTailB, Bool.and_eq_true, decide_eq_true_eq] at hB
    simpa using hB.1.1.1.2
  refine region_inv n Ψ hm hB hL hD hst (fun i hi V w' g hV => ?_) hend
  have ho : (l.take n)[i]? = some l[i] := by rw [List.getElem?_take, if_pos hi, List.getElem?_eq_getElem (by omega)]
  have h1 := stepsO_get hstep ho
  rw [Nat.zero_add] at h1
  have h2 := h1 V w' (frV l.toArray a V i) g hV (fun t j hs ht => frV_at (of_decide_eq_true ht) hs) (fun t v hs hv => (frV_at0 hs).trans hv)
  unfold stepV
  have ho' : l.toArray[i]? = some l[i] := by rw [List.getElem?_toArray, List.getElem?_eq_getElem (by omega)]
  rw [ho']
  exact h2
end
end Go.Proofs.YtkiockffejlnhaaGreatDoor

/- A region that draws its order and asks an encoder: what each of its operations tells. -/
namespace Go.Proofs.YtkiockffejlnhaaGreatDoor
open Go.RowKit
set_option linter.unusedVariables false
def psiE (vals : List Value) (base : Nat) (l : List Int) (i : Nat) (v : Value) (w : World) : Prop :=
  if i < vals.length then v = vals.getD i undef
  else if i ≤ vals.length + 1 then ∃ T k, v = .tuple #[.slice (some ⟨T, 0, none⟩) l.length k, .int .i64 0] ∧ OwnL w base (.slice (some ⟨T, 0, none⟩) l.length k) l
  else if i = vals.length + 2 then ∃ T k, v = .slice (some ⟨T, 0, none⟩) l.length k ∧ OwnL w base (.slice (some ⟨T, 0, none⟩) l.length k) l
  else v = .int .i64 0
theorem psiE_f {vals : List Value} {base : Nat} {l : List Int} {i : Nat} {v : Value} {w : World} (h : psiE vals base l i v w) (hi : i < vals.length) : v = vals.getD i undef := by unfold psiE at h; rwa [if_pos hi] at h
theorem psiE_mk {vals : List Value} {base : Nat} {l : List Int} {i : Nat} {v : Value} {w : World} (hi : i < vals.length) (h : v = vals.getD i undef) : psiE vals base l i v w := by unfold psiE; rwa [if_pos hi]
theorem psiE_t {vals : List Value} {base : Nat} {l : List Int} {i : Nat} {v : Value} {w : World} (h : psiE vals base l i v w) (h1 : vals.length ≤ i) (h2 : i ≤ vals.length + 1) : ∃ T k, v = .tuple #[.slice (some ⟨T, 0, none⟩) l.length k, .int .i64 0] ∧ OwnL w base (.slice (some ⟨T, 0, none⟩) l.length k) l := by
  unfold psiE at h; rwa [if_neg (by omega), if_pos h2] at h
theorem psiE_mt {vals : List Value} {base : Nat} {l : List Int} {i : Nat} {v : Value} {w : World} (h1 : vals.length ≤ i) (h2 : i ≤ vals.length + 1) (h : ∃ T k, v = .tuple #[.slice (some ⟨T, 0, none⟩) l.length k, .int .i64 0] ∧ OwnL w base (.slice (some ⟨T, 0, none⟩) l.length k) l) : psiE vals base l i v w := by
  unfold psiE; rwa [if_neg (by omega), if_pos h2]
theorem psiE_s {vals : List Value} {base : Nat} {l : List Int} {i : Nat} {v : Value} {w : World} (h : psiE vals base l i v w) (h1 : i = vals.length + 2) : ∃ T k, v = .slice (some ⟨T, 0, none⟩) l.length k ∧ OwnL w base (.slice (some ⟨T, 0, none⟩) l.length k) l := by
  unfold psiE at h; rwa [if_neg (by omega), if_neg (by omega), if_pos h1] at h
theorem psiE_ms {vals : List Value} {base : Nat} {l : List Int} {i : Nat} {v : Value} {w : World} (h1 : i = vals.length + 2) (h : ∃ T k, v = .slice (some ⟨T, 0, none⟩) l.length k ∧ OwnL w base (.slice (some ⟨T, 0, none⟩) l.length k) l) : psiE vals base l i v w := by
  unfold psiE; rwa [if_neg (by omega), if_neg (by omega), if_pos h1]
theorem psiE_e {vals : List Value} {base : Nat} {l : List Int} {i : Nat} {v : Value} {w : World} (h : psiE vals base l i v w) (h1 : vals.length + 3 ≤ i) : v = .int .i64 0 := by
  unfold psiE at h; rwa [if_neg (by omega), if_neg (by omega), if_neg (by omega)] at h
theorem psiE_me {vals : List Value} {base : Nat} {l : List Int} {i : Nat} {v : Value} {w : World} (h1 : vals.length + 3 ≤ i) (h : v = .int .i64 0) : psiE vals base l i v w := by
  unfold psiE; rwa [if_neg (by omega), if_neg (by omega), if_neg (by omega)]
theorem psiE_stable {vals : List Value} {base : Nat} {l : List Int} {i : Nat} {v : Value} {w w' : World} (h : psiE vals base l i v w) (g : w.grownBy w' none) : psiE vals base l i v w' := by
  unfold psiE at h ⊢
  split
  · rename_i h1; rwa [if_pos h1] at h
  · rename_i h1
    rw [if_neg h1] at h
    split
    · rename_i h2
      rw [if_pos h2] at h
      obtain ⟨T, k, e, o⟩ := h
      exact ⟨T, k, e, OwnL.grow o g⟩
    · rename_i h2
      rw [if_neg h2] at h
      split
      · rename_i h3
        rw [if_pos h3] at h
        obtain ⟨T, k, e, o⟩ := h
        exact ⟨T, k, e, OwnL.grow o g⟩
      · rename_i h3
        rwa [if_neg h3] at h
theorem psi_call {vals : List Value} {base : Nat} {l : List Int} {i : Nat} {W : World} {F : Nat} {args : Array Value} (hb : base ≤ W.heap.size) (h1 : vals.length ≤ i) (h2 : i ≤ vals.length + 1)
    (h : Calls Tryz.prog F args W fun e w' => ∃ T' c', e = .returned (.tuple #[.slice (some ⟨T', 0, none⟩) l.length c', .int .i64 0]) ∧ OwnL w' W.heap.size (.slice (some ⟨T', 0, none⟩) l.length c') l ∧ W.grownBy w' none) :
    Calls Tryz.prog F args W fun e w'' => ∃ v, e = .returned v ∧ W.grownBy w'' none ∧ psiE vals base l i v w'' :=
  h.mono fun e w' ⟨T, c, he, ho, hg⟩ => ⟨_, he, hg, psiE_mt h1 h2 ⟨T, c, rfl, OwnL.low ho hb⟩⟩
end Go.Proofs.YtkiockffejlnhaaGreatDoor

/- A region that draws its order, with a store at its end ahead of which one pure operation may not have come up yet. -/
namespace Go.Proofs.YtkiockffejlnhaaGreatDoor
open Go.RowKit
set_option linter.unusedVariables false
section
variable {P : Program} {ops : Array Oper}
def lateA (m n p : Nat) : Array Bool := (Array.range m).map fun j => decide (j ≤ n) && !(j == p)
theorem lateA_size (m n p : Nat) : (lateA m n p).size = m := by simp [lateA]
theorem lateA_get (m n p j : Nat) (h : j < m) : (lateA m n p).getD j false = (decide (j ≤ n) && !(j == p)) := by simp [lateA, h]
theorem any_of_late {n p : Nat} {on op1 op2 : Oper} {a0 : Act} {W : World} {Q : Exit → Act → World → Prop} {Ψ : Nat → Value → World → Prop} {l : List Oper} (hl : ops = l.toArray)
    (hst : ∀ i v w w', i < n → Ψ i v w → w.grownBy w' none → Ψ i v w')
    (hsel : Region.noSelect ops = true) (hsz : ops.size = n + 2) (hp : p < n) (hB1 : ∀ j, j < n → j ≠ p → Region.waitsFor .any ops n j = true) (hB2 : Region.waitsFor .any ops (n + 1) n = true) (hon : ops[n]? = some on) (hop : ops[p]? = some op1) (ho2 : ops[n + 1]? = some op2)
    (r1 : Region.ready .any ops (lateA ops.size n p) = [p]) (r2 : Region.ready .any ops ((lateA ops.size n p).setIfInBounds p true) = [n + 1]) (r3 : Region.ready .any ops (((lateA ops.size n p).setIfInBounds p true).setIfInBounds (n + 1) true) = []) (hlex : Region.lexHead .any ops (ops.size - n) n 0 (lexed ops.size 0) = true)
    (hL : lookB ops n = true) (hD : dstB ops n a0.tmps.size = true)
    (hstep : ∀ i, i < n → ∀ V w', W.grownBy w' none → (∀ j, (depsOf ops i).contains j = true → Ψ j (V j) w') → stepV P ops Ψ i (frV ops a0 V i) w')
    (hend : ∀ V w', W.grownBy w' none → (∀ i, i < n → Ψ i (V i) w') → wpList P ops Q (l.drop n) (frV ops a0 V n) w')
    (hlate : ∀ V w', W.grownBy w' none → (∀ i, i < n → i ≠ p → Ψ i (V i) w') → (∀ d, dstOf ops p = some d → V p = a0.tmps.getD d undef) → wpList P ops Q [on, op1, op2] (frV ops a0 V n) w') (f : Nat) :
    ∀ listed a w, left listed n = f → HeadInv .any ops n listed → FrInv ops n a0 Ψ listed a w → W.grownBy w none → wpAny P .any ops Q (f + (ops.size - n)) listed a w := by
  have hval : ∀ {listed a w i}, FrInv ops n a0 Ψ listed a w → i < n → listed.getD i false = true → Ψ i (valOf ops a i) w := by
    intro listed a w i inv hi hli
    unfold valOf
    cases hd : dstOf ops i with
    | none => exact inv.non i hi hli hd
    | some d => exact inv.val i d hi hli hd
  have hfr : ∀ {listed a w}, FrInv ops n a0 Ψ listed a w → a = frV ops a0 (valOf ops a) n := by
    intro listed a w inv
    obtain ⟨tm, df⟩ := a
    have h1 : tm = (frV ops a0 (valOf ops ⟨tm, df⟩) n).tmps := by
      apply Array.ext_getElem?
      intro s
      by_cases hex : ∃ j, j < n ∧ dstOf ops j = some s
      · obtain ⟨j, hj, hd⟩ := hex
        exact (frV_in a0 ⟨tm, df⟩ inv.size n s ⟨j, hj, hd⟩ (dstB_lt hD hj hd)).symm
      · have hno : ∀ j, j < n → dstOf ops j ≠ some s := fun j hj hd => hex ⟨j, hj, hd⟩
        rw [frV_out a0 _ n s hno]
        exact inv.old s fun i hi _ => hno i hi
    have h2 : df = (frV ops a0 (valOf ops ⟨tm, df⟩) n).defers := by rw [frV_defers]; exact inv.defers
    generalize frV ops a0 (valOf ops ⟨tm, df⟩) n = b at *
    obtain ⟨bt, bd⟩ := b
    simp_all
  have hn : n < ops.size := by omega
  induction f with
  | zero =>
    intro listed a w hf hinv inv hg
    have hall := left_zero hf
    have ea : a = frV ops a0 (valOf ops a) n := hfr inv
    have el : listed = lexed ops.size n := by
      apply Array.ext
      · rw [lexed_size]; exact hinv.size
      · intro i h1 h2
        have e1 := lexed_get ops.size n i (by rw [← hinv.size]; exact h1)
        by_cases hin : i < n
        · have e2 := hall i hin
          have : (lexed ops.size n).getD i false = true := by rw [e1]; simp [hin]
          simp [h1, h2] at e2 this
          rw [e2, this]
        · have e2 := getD_both (hinv.tail i (by omega) (by rw [← hinv.size]; exact h1))
          have : (lexed ops.size n).getD i false = false := by rw [e1]; simp [hin]
          simp [h1, h2] at e2 this
          rw [e2, this]
    have hw := hend (valOf ops a) w hg fun i hi => hval inv hi (hall i hi)
    rw [← ea] at hw
    have hse := lexHead_end ops.size n 0 (by simpa using hlex)
    rw [Nat.zero_add] at hse
    have hdl : (l.drop n).length = ops.size - n := by rw [hl]; simp
    have T := wpAny_of_seq (md := .any) (P := P) (ops := ops) (Q' := Q) (l.drop n) n listed a w (fun j => by rw [hl]; simp [List.getElem?_drop]) (by rw [hdl, el]; exact hse) hw
    rw [hdl] at T
    rw [Nat.zero_add]
    exact T
  | succ f ih =>
    intro listed a w hf hinv inv hg
    obtain ⟨k, hk, hkf, hkall⟩ := left_pos (by rw [hf]; exact Nat.succ_ne_zero f)
    have hkt : listed.getD k true = false := getD_in (by rw [hinv.size]; omega) hkf
    have hkr : k ∈ Region.ready .any ops listed := by
      have h0 := lexHead_at ops.size n 0 (by simpa using hlex) k (Nat.zero_le _) (by omega)
      obtain ⟨_, o, ho, hall⟩ := mem_ready.1 h0
      refine mem_ready.2 ⟨hkt, o, ho, fun e he hb => ?_⟩
      have h1 := hall e he hb
      have h2 : e.on < ops.size := by
        rcases Nat.lt_or_ge e.on (lexed ops.size k).size with h' | h'
        · rw [lexed_size] at h'; exact h'
        · simp [Array.getElem?_eq_none h'] at h1
      rw [lexed_get ops.size k e.on h2] at h1
      exact hkall e.on (by simpa using h1)
    rw [Nat.add_right_comm]
    refine ⟨fun h0 => absurd h0 (List.ne_nil_of_mem hkr), fun i hi => ?_⟩
    by_cases hin : i < n
    case neg =>
      have hilt : i < n + 2 := by
        obtain ⟨_, o, ho, _⟩ := mem_ready.1 hi
        have := (Array.getElem?_eq_some_iff.1 ho).1
        omega
      have hnf : listed.getD n false = false := getD_both (hinv.tail n (Nat.le_refl _) hn)
      have hi1 : i ≠ n + 1 := fun e => by
        subst e
        have := waits_listed hi hB2
        rw [hnf] at this
        cases this
      obtain rfl : i = n := by omega
      have hoth : ∀ j, j < i → j ≠ p → listed.getD j false = true := fun j hj hjp => waits_listed hi (hB1 j hj hjp)
      obtain rfl : k = p := Decidable.byContradiction fun h => by rw [hoth k hk h] at hkf; cases hkf
      have hf0 : f = 0 := by
        have h1 := left_set hk hkt
        have h2 : left (listed.setIfInBounds k true) i = 0 := by
          unfold left
          rw [List.filter_eq_nil_iff.2 fun j hj => ?_]
          · rfl
          · have hj' := List.mem_range.1 hj
            by_cases hjk : j = k
            · subst hjk
              have : j < listed.size := by rw [hinv.size]; omega
              simp [this]
            · have : (listed.setIfInBounds k true).getD j false = true := getD_set_true (hoth j hj' hjk)
              rw [this]; decide
        omega
      subst hf0
      have el : listed.setIfInBounds i true = lateA ops.size i k := by
        apply Array.ext
        · rw [lateA_size, Array.size_setIfInBounds]; exact hinv.size
        · intro j h1 h2
          have e1 := lateA_get ops.size i k j (by rw [lateA_size] at h2; exact h2)
          have hjs : j < ops.size := by rw [lateA_size] at h2; exact h2
          have hls : listed.size = ops.size := hinv.size
          have key : (listed.setIfInBounds i true).getD j false = (lateA ops.size i k).getD j false := by
            rw [e1]
            by_cases hji : j = i
            · subst hji
              have : j < listed.size := by omega
              simp [this]
              omega
            · rw [getD_set_ne false (Ne.symm hji)]
              by_cases hjk : j = k
              · subst hjk
                rw [hkf]
                simp
              · by_cases hjn : j < i
                · rw [hoth j hjn hjk]
                  simp [hjk]
                  omega
                · rw [getD_both (hinv.tail j (by omega) hjs)]
                  simp
                  omega
          rw [Array.getD_eq_getD_getElem?, Array.getElem?_eq_getElem h1, Array.getD_eq_getD_getElem?, Array.getElem?_eq_getElem h2] at key
          exact key
      have ea : a = frV ops a0 (valOf ops a) i := hfr inv
      have hw := hlate (valOf ops a) w hg (fun j hj hjp => hval inv hj (hoth j hj hjp)) (fun d hd => by
        unfold valOf
        rw [hd]
        have := inv.old d (fun j hj hjl => by
          by_cases hjk : j = k
          · subst hjk; rw [hkf] at hjl; cases hjl
          · exact dstB_ne hD hk hj (fun e => hjk e.symm) hd)
        show a.tmps.getD d undef = _
        rw [Array.getD_eq_getD_getElem?, this, ← Array.getD_eq_getD_getElem?])
      rw [← ea] at hw
      have h1 : wpOp P ops Q i (wpList P ops Q [op1, op2]) a w := by unfold wpOp; simp only [hon]; exact hw
      have hs2 : 0 + (ops.size - i) = 0 + 1 + 1 := by omega
      rw [hs2]
      refine wpOp_mono (fun a1 w1 h2 => ?_) h1
      rw [el]
      refine ⟨fun h0 => (by rw [r1] at h0; cases h0), fun j hj => ?_⟩
      rw [r1] at hj
      obtain rfl : j = k := by simpa using hj
      have h3 : wpOp P ops Q j (wpList P ops Q [op2]) a1 w1 := by unfold wpOp; simp only [hop]; exact h2
      refine wpOp_mono (fun a2 w2 h4 => ?_) h3
      refine ⟨fun h0 => (by rw [r2] at h0; cases h0), fun j' hj' => ?_⟩
      rw [r2] at hj'
      obtain rfl : j' = i + 1 := by simpa using hj'
      have h5 : wpOp P ops Q (i + 1) (wpList P ops Q []) a2 w2 := by unfold wpOp; simp only [ho2]; exact h4
      exact wpOp_mono (fun a3 w3 h6 => ⟨r3, h6⟩) h5
    obtain ⟨hiun, o, ho, hall⟩ := mem_ready.1 hi
    obtain ⟨hgd, hlk⟩ := lookB_spec hL hin ho
    have hd : dstOf ops i = o.dst := by unfold dstOf; rw [ho]; rfl
    have S := hstep i hin (valOf ops a) w hg fun j hj => by
      have hj' := List.mem_filter.1 (show j ∈ depsOf ops i by simpa using hj)
      have hlt := List.mem_range.1 hj'.1
      exact hval inv (by omega) (waits_listed hi hj'.2)
    unfold stepV at S
    simp only [ho] at S
    have hex : execOp a.eval o = execOp (frV ops a0 (valOf ops a) i).eval o := by
      refine execOp_congr o (fun cs b => Region.noSelect_spec hsel i o cs b ho) fun x hx => eval_same fun t ht => ?_
      subst ht
      have htl : t ∈ o.looksAt ops := List.mem_append_left _ (List.mem_filterMap.2 ⟨.tmp t, by simpa using hx, rfl⟩)
      by_cases hexi : ∃ j, j < n ∧ dstOf ops j = some t
      · obtain ⟨j, hj, hdj⟩ := hexi
        obtain ⟨hji, _⟩ := hlk t htl j hj hdj
        exact (frV_in a0 a inv.size i t ⟨j, hji, hdj⟩ (dstB_lt hD hj hdj)).symm
      · have hno : ∀ j, j < n → dstOf ops j ≠ some t := fun j hj hd => hexi ⟨j, hj, hd⟩
        rw [frV_out a0 _ i t fun j hj => hno j (by omega)]
        exact inv.old t fun j hj _ => hno j hj
    have next : ∀ v w', w.grownBy w' none → Ψ i v w' → wpAny P .any ops Q (f + (ops.size - n)) (listed.setIfInBounds i true) (a.put o.dst v) w' := by
      intro v w' hg' hv
      have hlf : left (listed.setIfInBounds i true) n = f := by have := left_set hin hiun; omega
      refine ih _ _ _ hlf (hinv.set hi hin) ?_ (grown_trans hg hg')
      have hset : ∀ j, j ≠ i → (listed.setIfInBounds i true).getD j false = true → listed.getD j false = true := fun j hj h => by rwa [getD_set_ne false (Ne.symm hj)] at h
      refine ⟨(put_size _ _ _).trans inv.size, (put_defers _ _ _).trans inv.defers, fun s hs' => ?_, fun j d hj hjl hjd => ?_, fun j hj hjl hjd => ?_⟩
      · have h1 : dstOf ops i ≠ some s := hs' i hin (by
          have : i < listed.size := by rw [hinv.size]; omega
          simp [this])
        rw [put_other _ _ (by rw [← hd]; exact h1)]
        exact inv.old s fun j hj hjl => hs' j hj (getD_set_true hjl)
      · by_cases hji : j = i
        · subst hji
          have e : o.dst = some d := by rw [← hd]; exact hjd
          rw [e]
          have hlt : d < a.tmps.size := by rw [inv.size]; exact dstB_lt hD hin hjd
          have := put_same a d v hlt
          rw [Array.getD_eq_getD_getElem?, this]
          exact hv
        · have hne : o.dst ≠ some d := by rw [← hd]; exact dstB_ne hD hj hin hji hjd
          have := put_other a v hne
          rw [Array.getD_eq_getD_getElem?, this, ← Array.getD_eq_getD_getElem?]
          exact hst _ _ _ _ hj (inv.val j d hj (hset j hji hjl) hjd) hg'
      · by_cases hji : j = i
        · subst hji
          exact absurd hjd (dstB_some hD hin)
        · exact hst _ _ _ _ hj (inv.non j hj (hset j hji hjl) hjd) hg'
    unfold wpOp
    simp only [ho]
    have hwa : Region.wanted o (yielded ops a.tmps) = true := by unfold Region.wanted; rw [hgd]
    rw [if_pos hwa]
    refine .inl ?_
    unfold Oper.wp
    rw [hex]
    generalize (execOp (frV ops a0 (valOf ops a) i).eval o).run P w = r at S
    match r, S with
    | .ok (.value v) w', S => exact next v w' S.1 S.2
    | .ok .skip w', S => exact next undef w' S.1 S.2
    | .ok (.enter fn args) w', S =>
      rw [Oper.upon_enter]
      refine Calls.mono S ?_
      rintro e w'' ⟨v, rfl, h1, h2⟩
      exact next v w'' h1 h2
def lateB (ops : Array Oper) (n p : Nat) : Bool :=
  Region.noSelect ops && decide (ops.size = n + 2) && decide (p < n) && ((List.range n).all fun j => j == p || Region.waitsFor .any ops n j) && Region.waitsFor .any ops (n + 1) n &&
    (Region.ready .any ops (lateA ops.size n p) == [p]) && (Region.ready .any ops ((lateA ops.size n p).setIfInBounds p true) == [n + 1]) && (Region.ready .any ops (((lateA ops.size n p).setIfInBounds p true).setIfInBounds (n + 1) true) == []) &&
    Region.lexHead .any ops (ops.size - n) n 0 (Array.replicate ops.size false)
theorem region_late {id : Nat} {Q : Exit → Act → World → Prop} {a : Act} {w : World} {l : List Oper} (n p : Nat) (on op1 op2 : Oper) (Ψ : Nat → Value → World → Prop)
    (hm : P.follows .mixedOrders = true) (hB : lateB l.toArray n p = true) (hon : l[n]? = some on) (hop : l[p]? = some op1) (ho2 : l[n + 1]? = some op2) (hL : lookB l.toArray n = true) (hD : dstB l.toArray n a.tmps.size = true)
    (hst : ∀ i v w w', i < n → Ψ i v w → w.grownBy w' none → Ψ i v w')
    (hstep : stepsO P l.toArray a w Ψ 0 (l.take n))
    (hend : ∀ V w', w.drew.grownBy w' none → (∀ i, i < n → Ψ i (V i) w') → wpList P l.toArray Q [on, op2] (frV l.toArray a V n) w')
    (hlate : ∀ V w', w.drew.grownBy w' none → (∀ i, i < n → i ≠ p → Ψ i (V i) w') → (∀ d, dstOf l.toArray p = some d → V p = a.tmps.getD d undef) → wpList P l.toArray Q [on, op1, op2] (frV l.toArray a V n) w') : (Code.region id l.toArray true).wp P Q a w := by
  unfold lateB at hB
  simp only [Bool.and_eq_true, decide_eq_true_eq, beq_iff_eq, List.all_eq_true, List.mem_range, Bool.or_eq_true] at hB
  obtain ⟨⟨⟨⟨⟨⟨⟨⟨hsel, hsz⟩, hp⟩, hB1⟩, hB2⟩, r1⟩, r2⟩, r3⟩, hlex⟩ := hB
  have hsl : l.length = n + 2 := by simpa using hsz
  have hstep' : ∀ i, i < n → ∀ V w', w.drew.grownBy w' none → (∀ j, (depsOf l.toArray i).contains j = true → Ψ j (V j) w') → stepV P l.toArray Ψ i (frV l.toArray a V i) w' := fun i hi V w' g hV => by
    have ho : (l.take n)[i]? = some l[i] := by rw [List.getElem?_take, if_pos hi, List.getElem?_eq_getElem (by omega)]
    have h1 := stepsO_get hstep ho
    rw [Nat.zero_add] at h1
    have h2 := h1 V w' (frV l.toArray a V i) g hV (fun t j hs ht => frV_at (of_decide_eq_true ht) hs) (fun t v hs hv => (frV_at0 hs).trans hv)
    unfold stepV
    have ho' : l.toArray[i]? = some l[i] := by rw [List.getElem?_toArray, List.getElem?_eq_getElem (by omega)]
    rw [ho']
    exact h2
  have hdrop : l.drop n = [on, op2] := by
    apply List.ext_getElem?
    intro j
    rw [List.getElem?_drop]
    match j with
    | 0 => simpa using hon
    | 1 => simpa using ho2
    | j + 2 =>
      rw [List.getElem?_eq_none (by omega)]
      rfl
  have inv0 : HeadInv .any l.toArray n (Array.replicate l.toArray.size false) :=
    ⟨by simp, fun j oj _ hl => (by rw [getD_replicate_false] at hl; cases hl), fun t _ ht => getD_in (by simpa using ht) (getD_replicate_false _ _)⟩
  have hl0 : left (Array.replicate l.toArray.size false) n = n := by
    unfold left
    rw [List.filter_eq_self.2 fun i _ => by rw [getD_replicate_false]; rfl]
    simp
  have fr0 : FrInv l.toArray n a Ψ (Array.replicate l.toArray.size false) a w.drew :=
    ⟨rfl, rfl, fun _ _ => rfl, fun i d _ h => (by rw [getD_replicate_false] at h; cases h), fun i _ h => (by rw [getD_replicate_false] at h; cases h)⟩
  have T := any_of_late (P := P) (Q := Q) (ops := l.toArray) (n := n) (p := p) (on := on) (op1 := op1) (op2 := op2) (a0 := a) (W := w.drew) (Ψ := Ψ) rfl hst hsel hsz hp (fun j hj hjp => (hB1 j hj).resolve_left hjp) hB2 (by simpa using hon) (by simpa using hop) (by simpa using ho2) r1 r2 r3 (by simpa [lexed] using hlex) hL hD hstep' (fun V w' g h => by rw [hdrop]; exact hend V w' g h) hlate n _ a w.drew hl0 inv0 fr0 (World.grownBy.refl _ _)
  rw [show n + (l.toArray.size - n) = l.toArray.size by omega] at T
  exact wp_region_any hm T
end
end Go.Proofs.YtkiockffejlnhaaGreatDoor

/- link's lengthen. -/
namespace Go.Proofs.YtkiockffejlnhaaGreatDoor
open Go.RowKit
set_option linter.unusedVariables false
namespace Lk
def nl (J J' : Nat → Int) (lo : Nat) : Nat → List Int
  | 0 => []
  | k + 1 => nl J J' lo k ++ if decide (lo ≤ k) && (fitB (J k) && !fitB (J' k)) then [(k : Int)] else []
theorem nl_len (J J' : Nat → Int) (lo : Nat) : ∀ k, (nl J J' lo k).length ≤ k
  | 0 => Nat.le_refl _
  | k + 1 => by have := nl_len J J' lo k; unfold nl; rw [List.length_append]; split <;> simp <;> omega
theorem nl_low (J J' : Nat → Int) (lo : Nat) : ∀ k, k ≤ lo → nl J J' lo k = []
  | 0, _ => rfl
  | k + 1, h => by unfold nl; rw [nl_low J J' lo k (by omega), if_neg (by simp; intro h; omega)]; rfl
theorem nl_mem (J J' : Nat → Int) (lo : Nat) : ∀ {k : Nat} {x : Int}, x ∈ nl J J' lo k ↔ ∃ i : Nat, i < k ∧ lo ≤ i ∧ x = i ∧ fitB (J i) = true ∧ fitB (J' i) = false
  | 0, x => by simp [nl]
  | k + 1, x => by
    unfold nl
    rw [List.mem_append, nl_mem J J' lo (k := k)]
    constructor
    · rintro (⟨i, h1, h2⟩ | h)
      · exact ⟨i, by omega, h2⟩
      · split at h
        · next hj => simp at h hj; exact ⟨k, by omega, hj.1, h, hj.2⟩
        · cases h
    · rintro ⟨i, h1, h2, h3, h4, h5⟩
      by_cases e : i = k
      · subst e; rw [if_pos (by simp [h2, h4, h5])]; exact .inr (by simp [h3])
      · exact .inl ⟨i, by omega, h2, h3, h4, h5⟩
def mid (J J' : Nat → Int) (lo k : Nat) (i : Nat) : Int := if lo ≤ i ∧ i < k then J' i else J i
theorem nl_cnt (J J' : Nat → Int) (lo : Nat) (h : ∀ i, fitB (J i) = false → J' i = J i) (n : Nat) : ∀ k, k ≤ n → cnt (mid J J' lo k) n + (nl J J' lo k).length = cnt J n
  | 0, _ => by
    have : cnt (mid J J' lo 0) n = cnt J n := cnt_congr (fun i _ => by unfold mid; simp)
    rw [this]; rfl
  | k + 1, hk => by
    have ih := nl_cnt J J' lo h n k (by omega)
    unfold nl
    rw [List.length_append]
    have hm : ∀ i, i ≠ k → fitB (mid J J' lo k i) = fitB (mid J J' lo (k + 1) i) := fun i hi => by
      unfold mid
      by_cases h1 : lo ≤ i ∧ i < k
      · rw [if_pos h1, if_pos (by omega)]
      · rw [if_neg h1, if_neg (by omega)]
    by_cases hc : (decide (lo ≤ k) && (fitB (J k) && !fitB (J' k))) = true
    · rw [if_pos hc]
      simp at hc
      have e1 : fitB (mid J J' lo k k) = true := by unfold mid; rw [if_neg (by omega)]; exact hc.2.1
      have e2 : fitB (mid J J' lo (k + 1) k) = false := by unfold mid; rw [if_pos (by omega)]; exact hc.2.2
      have := cnt_drop e1 e2 (k := n) (by omega) (fun i _ hi => hm i hi)
      simp only [List.length_cons, List.length_nil]
      omega
    · rw [if_neg hc]
      have : cnt (mid J J' lo k) n = cnt (mid J J' lo (k + 1)) n := cnt_congr (fun i _ => by
        by_cases e : i = k
        · subst e
          unfold mid
          rw [if_neg (by omega)]
          by_cases hl : lo ≤ i
          · rw [if_pos (by omega)]
            cases h1 : fitB (J i)
            · rw [h i h1, h1]
            · cases h2 : fitB (J' i)
              · exact absurd (by simp [hl, h1, h2]) hc
              · rfl
          · rw [if_neg (by omega)]
        · exact hm i e)
      rw [← this]
      simp only [List.length_nil]
      omega
end Lk
theorem chApp {w w1 w2 : World} {l : List Nat} {row : Option Nat} (h : Ch w w1 l) (hg : w1.grownBy w2 row) (hr : ∀ b, row = some b → w.heap.size ≤ b) : Ch w w2 l :=
  ⟨hg.os.trans h.os, hg.tape.trans h.tape, hg.output.trans h.output, Nat.le_trans h.size hg.size, fun k hk hl => (hg.block k (Nat.lt_of_lt_of_le hk h.size) (fun e => by have := hr k e.symm; omega)).trans (h.block k hk hl)⟩
set_option maxRecDepth 100000 in
set_option maxHeartbeats 16000000 in
theorem plong_r {N : Nat} {w : World} {B : Nat} {P : Lk.PcV} {ia ma : Option Addr} {ic mc T TJ : Nat} {p : Int} {L : Nat → Bool} {J : Nat → Int} {Q : Nat → Prop} (h : Pt N w B 60 P ia ma ic mc (.slice (some ⟨T, 0, none⟩) P.n P.n)) (hTab : TabAt w) (hNw : N ≤ w.heap.size) (hTN : 2 < N)
    (ho : OwnN w N (.slice (some ⟨T, 0, none⟩) P.n P.n) P.n ((P.sh 1).size L)) (hoJ : OwnN w N (.slice (some ⟨TJ, 0, none⟩) P.n P.n) P.n J) (hne : T ≠ TJ) (hBT : B ≠ T) (hBJ : B ≠ TJ) (hP : P.Ok 1 p) (hn : P.n ≤ 1100000) (st : Lk.St (P.sh 1) L J Q) {m : Nat} (hm : m < P.n) (hmj : Lk.jmpB (P.I m).op = true) (hmf : Lk.fitB (J m) = false) :
    Calls Tryz.prog 43 #[.pointer (some ⟨B, 0, none⟩), .int .i64 m, .slice (some ⟨TJ, 0, none⟩) P.n P.n] w fun e w' => ∃ v, e = .returned v ∧ OwnZ w' w.heap.size v (Lk.nl J (Lk.bump (P.sh 1) L J m) (m - 128) (min P.n (m + 129))) ∧
      OwnN w' N (.slice (some ⟨T, 0, none⟩) P.n P.n) P.n ((P.sh 1).size (Lk.with1 L m)) ∧ OwnN w' N (.slice (some ⟨TJ, 0, none⟩) P.n P.n) P.n (Lk.bump (P.sh 1) L J m) ∧ Ch w w' [T, TJ] := by
  have hT1 : N ≤ T := ho.base T rfl
  have hT2 : N ≤ TJ := hoJ.base TJ rfl
  obtain ⟨v, hv⟩ : ∃ v, v = P.I m := ⟨_, rfl⟩
  have hmay := hP.may hm
  have hlab := Lk.lab_jmp hmay.1 hmj
  rw [← hv] at hmj hmay hlab
  have hsz : (P.sh 1).size L m = (P.sh 1).g ∨ (P.sh 1).size L m = (P.sh 1).s m := by unfold Lk.Sh.size; split <;> simp
  have hlen : ((Ru.encT 1 (Lk.lead v 128)).length : Int) = Lk.long 1 := by
    rw [Lk.len_jmp hmj hmay.2 (by decide) (by decide), if_neg (by decide)]
  have hg : (P.sh 1).g = Lk.long 1 := rfl
  have hs3 : (P.sh 1).s m = if 1 = 1 then 8 else 3 := by
    show ((Ru.encT 1 (Lk.bare (P.I m))).length : Int) = _
    rw [← hv]
    exact Lk.len_short hmj hmay.2 hlab.1
  have hlong : Lk.long 1 = 8 := by decide
  have hmore : 0 ≤ Lk.long 1 - (P.sh 1).size L m ∧ Lk.long 1 - (P.sh 1).size L m ≤ 6 := by
    rcases hsz with e | e
    · rw [e, hg]; omega
    · rw [e, hs3, hlong]; decide
  have HLd : Hid (∀ W, Calls Tryz.prog 47 #[.agg #[.int .i64 v.op, .int .i64 v.a, .int .i64 v.b, .int .i64 v.c, .int .i64 v.k, .int .i64 v.sub, .int .i64 v.scale, .int .i64 v.imm, .int .i64 v.label], .int .i64 128] W fun e w' => e = .returned (.agg #[.int .i64 v.op, .int .i64 v.a, .int .i64 v.b, .int .i64 v.c, .int .i64 v.k, .int .i64 v.sub, .int .i64 v.scale, .int .i64 128, .int .i64 0]) ∧ W.grownBy w' none) := fun W => leading_any v 128 W
  obtain ⟨bi, offi, hia, hbi, hin, hrng⟩ := h.ins.at hm
  rw [← hv] at hin hrng
  obtain ⟨SS, hSS⟩ : ∃ SS, SS = Ru.encT 1 (Lk.lead v 128) := ⟨_, rfl⟩
  have hSl : SS.length = 8 := by rw [hSS]; rw [hlong] at hlen; omega
  have HEn : Hid (∀ W, TabAt W → Calls Tryz.prog 60 #[.agg #[.int .i64 v.op, .int .i64 v.a, .int .i64 v.b, .int .i64 v.c, .int .i64 v.k, .int .i64 v.sub, .int .i64 v.scale, .int .i64 128, .int .i64 0]] W fun e w' => ∃ T' c', e = .returned (.tuple #[.slice (some ⟨T', 0, none⟩) SS.length c', .int .i64 0]) ∧ OwnL w' W.heap.size (.slice (some ⟨T', 0, none⟩) SS.length c') SS ∧ W.grownBy w' none) := fun W hW => by
    rw [hSS]
    exact enc_r (Lk.lead v 128) W ⟨by show (-9223372036854775808 : Int) ≤ 128; decide, by show (128 : Int) ≤ 9223372036854775807; decide, hrng.s1, hrng.s2⟩ (Lk.may_lead (.inl hmj) hmay.2 (by decide) (by decide))
  clear hSS
  have HOv : Hid (∀ j, j < P.n → ∀ W l, Ch w W l → (∀ k, k ∈ l → N ≤ k) → B ∉ l → Calls Tryz.prog 67 #[.pointer (some ⟨B, 0, none⟩), .int .i64 j, .int .i64 m] W fun e w' => e = .returned (.int .i64 (if Lk.jmpB (P.I j).op then (P.sh 1).over j m else 0)) ∧ W.grownBy w' none) := fun j hj W l hW hl hB => pover_any (h.ch hW hl hB) hP hj hm
  have HOr : Hid (∀ j, (if Lk.jmpB (P.I j).op then (P.sh 1).over j m else 0) = 1 ∨ (if Lk.jmpB (P.I j).op then (P.sh 1).over j m else 0) = -1 ∨ (if Lk.jmpB (P.I j).op then (P.sh 1).over j m else 0) = 0) := fun j => by
    unfold Lk.Sh.over
    repeat' split
    all_goals simp
  have HBu : Hid (∀ j, Lk.bump (P.sh 1) L J m j = if Lk.fitB (J j) then J j + (Lk.long 1 - (P.sh 1).size L m) * (if Lk.jmpB (P.I j).op then (P.sh 1).over j m else 0) else J j) := fun j => rfl
  have HNr : Hid (∀ j, j < P.n → (j + 128 < m ∨ m + 128 < j) → Lk.bump (P.sh 1) L J m j = J j) := fun j hj hw => Lk.bump_near hP.sh st hj hw
  have HSz : Hid (∀ i, i < P.n → setF ((P.sh 1).size L) m 8 i = (P.sh 1).size (Lk.with1 L m) i) := fun i hi => by
    unfold setF Lk.Sh.size Lk.with1
    by_cases e : i = m
    · subst e
      have : (P.sh 1).j i = true := by show Lk.jmpB (P.I i).op = true; rw [← hv]; exact hmj
      simp [this, hg, hlong]
    · simp [e]
  have HPt : Hid (Pt N w B 60 P ia ma ic mc (.slice (some ⟨T, 0, none⟩) P.n P.n)) := h
  have HTb : Hid (TabAt w) := hTab
  have HO : Hid (OwnN w N (.slice (some ⟨T, 0, none⟩) P.n P.n) P.n ((P.sh 1).size L)) := ho
  have HJ : Hid (OwnN w N (.slice (some ⟨TJ, 0, none⟩) P.n P.n) P.n J) := hoJ
  have HTJ : Hid (TJ < w.heap.size ∧ T < w.heap.size) := ⟨hoJ.lt TJ rfl, ho.lt T rfl⟩
  have cs := ho.cell hm
  have c0 := h.c0
  have c1 := h.c1
  have c3 := h.c3
  rw [hia] at c1
  obtain ⟨d0, d1, d2, d3, d4, d5, d6, d7, d8⟩ := hin
  rw [hlong] at hmore HBu
  clear h ho hoJ hTab hv hmay hlab hsz hlen hg hs3 hlong hrng hmj st
  obtain ⟨U, hU⟩ : ∃ U, U = Lk.bump (P.sh 1) L J m := ⟨_, rfl⟩
  obtain ⟨Z, hZ⟩ : ∃ Z, Z = (P.sh 1).size (Lk.with1 L m) := ⟨_, rfl⟩
  obtain ⟨Y, hY⟩ : ∃ Y, Y = (P.sh 1).size L := ⟨_, rfl⟩
  obtain ⟨O, hO⟩ : ∃ O : Nat → Int, O = fun j => if Lk.jmpB (P.I j).op then (P.sh 1).over j m else 0 := ⟨_, rfl⟩
  rw [← hU] at HBu HNr
  rw [← hU, ← hZ]
  rw [← hY] at HO cs hmore HBu HSz
  rw [← hZ] at HSz
  have HOv : Hid (∀ j, j < P.n → ∀ W l, Ch w W l → (∀ k, k ∈ l → N ≤ k) → B ∉ l → Calls Tryz.prog 67 #[.pointer (some ⟨B, 0, none⟩), .int .i64 j, .int .i64 m] W fun e w' => e = .returned (.int .i64 (O j)) ∧ W.grownBy w' none) := by rw [hO]; exact HOv
  have HOr : Hid (∀ j, O j = 1 ∨ O j = -1 ∨ O j = 0) := by rw [hO]; exact HOr
  have HBu : Hid (∀ j, U j = if Lk.fitB (J j) then J j + (8 - Y m) * O j else J j) := by rw [hO]; exact HBu
  clear hU hZ hY hO hia
  obtain ⟨n, hnn⟩ : ∃ n, n = P.n := ⟨_, rfl⟩
  rw [← hnn] at HOv HNr HSz HPt HO HJ c1 c3 hn hm ⊢
  clear hnn
  have hm' : (m : Int) < n := by omega
  have hn' : (n : Int) ≤ 1100000 := by omega
  obtain ⟨lo, hlo⟩ : ∃ lo, lo = m - 128 := ⟨_, rfl⟩
  rw [← hlo]
  obtain ⟨hi, hhi⟩ : ∃ hi, hi = min n (m + 129) := ⟨_, rfl⟩
  rw [← hhi]
  have HLo : Hid (lo = m - 128) := hlo
  have HHi : Hid (hi ≤ n ∧ hi ≤ m + 129 ∧ (∀ k, k < n → k < m + 129 → k < hi) ∧ lo ≤ hi) := by
    show _ ∧ _ ∧ _ ∧ _
    rw [hhi, hlo]
    refine ⟨Nat.min_le_left _ _, Nat.min_le_right _ _, fun k h1 h2 => Nat.lt_min.2 ⟨h1, h2⟩, ?_⟩
    exact Nat.le_min.2 ⟨by omega, by omega⟩
  clear hlo hhi
  go_enter Tryz.func43, Tryz.ntmps43
  go_wp2_with fail
  have HWd : Hid (∀ W, w.grownBy W none → TabAt W) := fun W g => HTb.out.kept g (by simp)
  have hmn : ¬ n ≤ m := by omega
  go_cut [7, 8] (fun b e wx => ∃ T' c', b = .slice (some ⟨T', 0, none⟩) 8 c' ∧ e = .int .i64 0 ∧ w.grownBy wx none)
  case first =>
    refine region_late 16 15 _ _ _ (psiE [.pointer (some ⟨B, 0, none⟩), .pointer (some ⟨B, 0, none⟩), .pointer (some ⟨B, 0, none⟩), .func (.func 60) #[] #[], .pointer (some ⟨B, 0, none⟩), .pointer (some ⟨B, 0, none⟩), .pointer (some ⟨B, 1, none⟩), .slice (some ⟨bi, offi, none⟩) n ic, .int .i64 (m : Int), .pointer (some ⟨bi, offi + m * 9, none⟩), .agg #[.int .i64 v.op, .int .i64 v.a, .int .i64 v.b, .int .i64 v.c, .int .i64 v.k, .int .i64 v.sub, .int .i64 v.scale, .int .i64 v.imm, .int .i64 v.label], .agg #[.int .i64 v.op, .int .i64 v.a, .int .i64 v.b, .int .i64 v.c, .int .i64 v.k, .int .i64 v.sub, .int .i64 v.scale, .int .i64 128, .int .i64 0]] w.heap.size SS) (by kernel_rfl) (by kernel_rfl) rfl rfl rfl (by kernel_rfl) (by kernel_rfl) (fun i x w0 w1 hi h g => psiE_stable h g) ?_ ?_ ?_
    · simp only [List.take_succ_cons, List.take_zero]
      refine ⟨?_, ?_, ?_, ?_, ?_, ?_, ?_, ?_, ?_, ?_, ?_, ?_, ?_, ?_, ?_, ?_, trivial⟩
      · intro V W0 A g hV hs hz
        have gD : w.grownBy W0 none := grown_trans (grown_drew (World.grownBy.refl _ none)) g
        have e00 := hz 0 (.pointer (some ⟨B, 0, none⟩)) (by kernel_rfl) rfl
        clear hV hs hz
        refine outO_val (v := .pointer (some ⟨B, 0, none⟩)) (w' := W0) ?_ (World.grownBy.refl _ _) (psiE_mk (by simp) rfl)
        simp [go_sem, e00]
      · intro V W0 A g hV hs hz
        have gD : w.grownBy W0 none := grown_trans (grown_drew (World.grownBy.refl _ none)) g
        have q0 : V 0 = .pointer (some ⟨B, 0, none⟩) := psiE_f (hV 0 (by kernel_rfl)) (by simp)
        have e0 := hs 13 0 (by kernel_rfl) (by kernel_rfl)
        clear hV hs hz
        refine outO_val (v := .pointer (some ⟨B, 0, none⟩)) (w' := W0) ?_ (World.grownBy.refl _ _) (psiE_mk (by simp) rfl)
        simp [go_sem, q0, e0]
      · intro V W0 A g hV hs hz
        have gD : w.grownBy W0 none := grown_trans (grown_drew (World.grownBy.refl _ none)) g
        have q1 : V 1 = .pointer (some ⟨B, 0, none⟩) := psiE_f (hV 1 (by kernel_rfl)) (by simp)
        have e1 := hs 14 1 (by kernel_rfl) (by kernel_rfl)
        clear hV hs hz
        refine outO_val (v := .pointer (some ⟨B, 0, none⟩)) (w' := W0) ?_ (World.grownBy.refl _ _) (psiE_mk (by simp) rfl)
        simp [go_sem, q1, e1]
      · intro V W0 A g hV hs hz
        have gD : w.grownBy W0 none := grown_trans (grown_drew (World.grownBy.refl _ none)) g
        have q2 : V 2 = .pointer (some ⟨B, 0, none⟩) := psiE_f (hV 2 (by kernel_rfl)) (by simp)
        have e2 := hs 15 2 (by kernel_rfl) (by kernel_rfl)
        have x0 := gD.cell c0 (by simp)
        clear hV hs hz
        refine outO_val (v := .func (.func 60) #[] #[]) (w' := W0) ?_ (World.grownBy.refl _ _) (psiE_mk (by simp) rfl)
        simp [go_sem, q2, e2, x0]
      · intro V W0 A g hV hs hz
        have gD : w.grownBy W0 none := grown_trans (grown_drew (World.grownBy.refl _ none)) g
        have e00 := hz 0 (.pointer (some ⟨B, 0, none⟩)) (by kernel_rfl) rfl
        clear hV hs hz
        refine outO_val (v := .pointer (some ⟨B, 0, none⟩)) (w' := W0) ?_ (World.grownBy.refl _ _) (psiE_mk (by simp) rfl)
        simp [go_sem, e00]
      · intro V W0 A g hV hs hz
        have gD : w.grownBy W0 none := grown_trans (grown_drew (World.grownBy.refl _ none)) g
        have q4 : V 4 = .pointer (some ⟨B, 0, none⟩) := psiE_f (hV 4 (by kernel_rfl)) (by simp)
        have e4 := hs 17 4 (by kernel_rfl) (by kernel_rfl)
        clear hV hs hz
        refine outO_val (v := .pointer (some ⟨B, 0, none⟩)) (w' := W0) ?_ (World.grownBy.refl _ _) (psiE_mk (by simp) rfl)
        simp [go_sem, q4, e4]
      · intro V W0 A g hV hs hz
        have gD : w.grownBy W0 none := grown_trans (grown_drew (World.grownBy.refl _ none)) g
        have q5 : V 5 = .pointer (some ⟨B, 0, none⟩) := psiE_f (hV 5 (by kernel_rfl)) (by simp)
        have e5 := hs 18 5 (by kernel_rfl) (by kernel_rfl)
        clear hV hs hz
        refine outO_val (v := .pointer (some ⟨B, 1, none⟩)) (w' := W0) ?_ (World.grownBy.refl _ _) (psiE_mk (by simp) rfl)
        simp [go_sem, q5, e5]
      · intro V W0 A g hV hs hz
        have gD : w.grownBy W0 none := grown_trans (grown_drew (World.grownBy.refl _ none)) g
        have q6 : V 6 = .pointer (some ⟨B, 1, none⟩) := psiE_f (hV 6 (by kernel_rfl)) (by simp)
        have e6 := hs 19 6 (by kernel_rfl) (by kernel_rfl)
        have x0 := gD.cell c1 (by simp)
        clear hV hs hz
        refine outO_val (v := .slice (some ⟨bi, offi, none⟩) n ic) (w' := W0) ?_ (World.grownBy.refl _ _) (psiE_mk (by simp) rfl)
        simp [go_sem, q6, e6, x0]
      · intro V W0 A g hV hs hz
        have gD : w.grownBy W0 none := grown_trans (grown_drew (World.grownBy.refl _ none)) g
        have e01 := hz 1 (.int .i64 (m : Int)) (by kernel_rfl) rfl
        clear hV hs hz
        refine outO_val (v := .int .i64 (m : Int)) (w' := W0) ?_ (World.grownBy.refl _ _) (psiE_mk (by simp) rfl)
        simp [go_sem, e01]
      · intro V W0 A g hV hs hz
        have gD : w.grownBy W0 none := grown_trans (grown_drew (World.grownBy.refl _ none)) g
        have q7 : V 7 = .slice (some ⟨bi, offi, none⟩) n ic := psiE_f (hV 7 (by kernel_rfl)) (by simp)
        have e7 := hs 20 7 (by kernel_rfl) (by kernel_rfl)
        have q8 : V 8 = .int .i64 (m : Int) := psiE_f (hV 8 (by kernel_rfl)) (by simp)
        have e8 := hs 21 8 (by kernel_rfl) (by kernel_rfl)
        clear hV hs hz
        refine outO_val (v := .pointer (some ⟨bi, offi + m * 9, none⟩)) (w' := W0) ?_ (World.grownBy.refl _ _) (psiE_mk (by simp) rfl)
        simp [go_sem, q7, e7, q8, e8, hmn]
      · intro V W0 A g hV hs hz
        have gD : w.grownBy W0 none := grown_trans (grown_drew (World.grownBy.refl _ none)) g
        have q9 : V 9 = .pointer (some ⟨bi, offi + m * 9, none⟩) := psiE_f (hV 9 (by kernel_rfl)) (by simp)
        have e9 := hs 22 9 (by kernel_rfl) (by kernel_rfl)
        have x0 := gD.cell d0 (by simp)
        have x1 := gD.cell d1 (by simp)
        have x2 := gD.cell d2 (by simp)
        have x3 := gD.cell d3 (by simp)
        have x4 := gD.cell d4 (by simp)
        have x5 := gD.cell d5 (by simp)
        have x6 := gD.cell d6 (by simp)
        have x7 := gD.cell d7 (by simp)
        have x8 := gD.cell d8 (by simp)
        clear hV hs hz
        refine outO_val (v := .agg #[.int .i64 v.op, .int .i64 v.a, .int .i64 v.b, .int .i64 v.c, .int .i64 v.k, .int .i64 v.sub, .int .i64 v.scale, .int .i64 v.imm, .int .i64 v.label]) (w' := W0) ?_ (World.grownBy.refl _ _) (psiE_mk (by simp) rfl)
        simp [go_sem, q9, e9, x0, x1, x2, x3, x4, x5, x6, x7, x8]
      · intro V W0 A g hV hs hz
        have gD : w.grownBy W0 none := grown_trans (grown_drew (World.grownBy.refl _ none)) g
        have q10 : V 10 = .agg #[.int .i64 v.op, .int .i64 v.a, .int .i64 v.b, .int .i64 v.c, .int .i64 v.k, .int .i64 v.sub, .int .i64 v.scale, .int .i64 v.imm, .int .i64 v.label] := psiE_f (hV 10 (by kernel_rfl)) (by simp)
        have e10 := hs 23 10 (by kernel_rfl) (by kernel_rfl)
        clear hV hs hz
        refine outO_call (f := 47) ?_ ((HLd.out W0).mono fun e w2 ⟨he, hg⟩ => ⟨_, he, hg, psiE_mk (by simp) rfl⟩)
        simp [go_sem, q10, e10]
      · intro V W0 A g hV hs hz
        have gD : w.grownBy W0 none := grown_trans (grown_drew (World.grownBy.refl _ none)) g
        have q3 : V 3 = .func (.func 60) #[] #[] := psiE_f (hV 3 (by kernel_rfl)) (by simp)
        have e3 := hs 16 3 (by kernel_rfl) (by kernel_rfl)
        have q11 : V 11 = .agg #[.int .i64 v.op, .int .i64 v.a, .int .i64 v.b, .int .i64 v.c, .int .i64 v.k, .int .i64 v.sub, .int .i64 v.scale, .int .i64 128, .int .i64 0] := psiE_f (hV 11 (by kernel_rfl)) (by simp)
        have e11 := hs 24 11 (by kernel_rfl) (by kernel_rfl)
        clear hV hs hz
        refine outO_call (f := 60) ?_ (psi_call (by have := g.size; exact this) (by simp) (by simp) (HEn.out W0 (HWd.out W0 gD)))
        simp [go_sem, q3, e3, q11, e11]
      · intro V W0 A g hV hs hz
        obtain ⟨T1, k1, h1, o1⟩ := psiE_t (hV 12 (by kernel_rfl)) (by simp) (by simp)
        have e1 := hs 25 12 (by kernel_rfl) (by kernel_rfl)
        clear hV hs hz
        refine outO_val (v := V 12) (w' := W0) ?_ (World.grownBy.refl _ _) (psiE_mt (by simp) (by simp) ⟨T1, k1, h1, o1⟩)
        simp [go_sem, e1]
      · intro V W0 A g hV hs hz
        obtain ⟨T1, k1, h1, o1⟩ := psiE_t (hV 13 (by kernel_rfl)) (by simp) (by simp)
        have e1 := hs 12 13 (by kernel_rfl) (by kernel_rfl)
        clear hV hs hz
        refine outO_val (v := .slice (some ⟨T1, 0, none⟩) SS.length k1) (w' := W0) ?_ (World.grownBy.refl _ _) (psiE_ms (by simp) ⟨T1, k1, rfl, o1⟩)
        simp [go_sem, e1, h1]
      · intro V W0 A g hV hs hz
        obtain ⟨T1, k1, h1, o1⟩ := psiE_t (hV 13 (by kernel_rfl)) (by simp) (by simp)
        have e1 := hs 12 13 (by kernel_rfl) (by kernel_rfl)
        clear hV hs hz
        refine outO_val (v := .int .i64 0) (w' := W0) ?_ (World.grownBy.refl _ _) (psiE_me (by simp) rfl)
        simp [go_sem, e1, h1]
    · intro V W0 g hV
      have gD : w.grownBy W0 none := grown_trans (grown_drew (World.grownBy.refl _ none)) g
      have h0 : V 0 = .pointer (some ⟨B, 0, none⟩) := psiE_f (hV 0 (by decide)) (by simp)
      have h1 : V 1 = .pointer (some ⟨B, 0, none⟩) := psiE_f (hV 1 (by decide)) (by simp)
      have h2 : V 2 = .pointer (some ⟨B, 0, none⟩) := psiE_f (hV 2 (by decide)) (by simp)
      have h3 : V 3 = .func (.func 60) #[] #[] := psiE_f (hV 3 (by decide)) (by simp)
      have h4 : V 4 = .pointer (some ⟨B, 0, none⟩) := psiE_f (hV 4 (by decide)) (by simp)
      have h5 : V 5 = .pointer (some ⟨B, 0, none⟩) := psiE_f (hV 5 (by decide)) (by simp)
      have h6 : V 6 = .pointer (some ⟨B, 1, none⟩) := psiE_f (hV 6 (by decide)) (by simp)
      have h7 : V 7 = .slice (some ⟨bi, offi, none⟩) n ic := psiE_f (hV 7 (by decide)) (by simp)
      have h8 : V 8 = .int .i64 (m : Int) := psiE_f (hV 8 (by decide)) (by simp)
      have h9 : V 9 = .pointer (some ⟨bi, offi + m * 9, none⟩) := psiE_f (hV 9 (by decide)) (by simp)
      have h10 : V 10 = .agg #[.int .i64 v.op, .int .i64 v.a, .int .i64 v.b, .int .i64 v.c, .int .i64 v.k, .int .i64 v.sub, .int .i64 v.scale, .int .i64 v.imm, .int .i64 v.label] := psiE_f (hV 10 (by decide)) (by simp)
      have h11 : V 11 = .agg #[.int .i64 v.op, .int .i64 v.a, .int .i64 v.b, .int .i64 v.c, .int .i64 v.k, .int .i64 v.sub, .int .i64 v.scale, .int .i64 128, .int .i64 0] := psiE_f (hV 11 (by decide)) (by simp)
      obtain ⟨T1, k1, h12, _⟩ := psiE_t (hV 12 (by decide)) (by simp) (by simp)
      obtain ⟨T2, k2, h13, _⟩ := psiE_t (hV 13 (by decide)) (by simp) (by simp)
      obtain ⟨T3, k3, h14, _⟩ := psiE_s (hV 14 (by decide)) (by simp)
      have h15 := psiE_e (hV 15 (by decide)) (by simp)
      rw [hSl] at h12 h13 h14
      simp [frV, dstOf, Act.put, h0, h1, h2, h3, h4, h5, h6, h7, h8, h9, h10, h11, h12, h13, h14, h15]
      clear h0 h1 h2 h3 h4 h5 h6 h7 h8 h9 h10 h11 h12 h13 h14 h15 hV g
      have GR : Hid (w.grownBy W0 none) := gD
      clear gD
      go_wp2_with fail
      go_meet
      exact ⟨T3, k3, rfl, rfl, GR.out⟩
    · intro V W0 g hV hold
      have gD : w.grownBy W0 none := grown_trans (grown_drew (World.grownBy.refl _ none)) g
      have h0 : V 0 = .pointer (some ⟨B, 0, none⟩) := psiE_f (hV 0 (by decide) (by decide)) (by simp)
      have h1 : V 1 = .pointer (some ⟨B, 0, none⟩) := psiE_f (hV 1 (by decide) (by decide)) (by simp)
      have h2 : V 2 = .pointer (some ⟨B, 0, none⟩) := psiE_f (hV 2 (by decide) (by decide)) (by simp)
      have h3 : V 3 = .func (.func 60) #[] #[] := psiE_f (hV 3 (by decide) (by decide)) (by simp)
      have h4 : V 4 = .pointer (some ⟨B, 0, none⟩) := psiE_f (hV 4 (by decide) (by decide)) (by simp)
      have h5 : V 5 = .pointer (some ⟨B, 0, none⟩) := psiE_f (hV 5 (by decide) (by decide)) (by simp)
      have h6 : V 6 = .pointer (some ⟨B, 1, none⟩) := psiE_f (hV 6 (by decide) (by decide)) (by simp)
      have h7 : V 7 = .slice (some ⟨bi, offi, none⟩) n ic := psiE_f (hV 7 (by decide) (by decide)) (by simp)
      have h8 : V 8 = .int .i64 (m : Int) := psiE_f (hV 8 (by decide) (by decide)) (by simp)
      have h9 : V 9 = .pointer (some ⟨bi, offi + m * 9, none⟩) := psiE_f (hV 9 (by decide) (by decide)) (by simp)
      have h10 : V 10 = .agg #[.int .i64 v.op, .int .i64 v.a, .int .i64 v.b, .int .i64 v.c, .int .i64 v.k, .int .i64 v.sub, .int .i64 v.scale, .int .i64 v.imm, .int .i64 v.label] := psiE_f (hV 10 (by decide) (by decide)) (by simp)
      have h11 : V 11 = .agg #[.int .i64 v.op, .int .i64 v.a, .int .i64 v.b, .int .i64 v.c, .int .i64 v.k, .int .i64 v.sub, .int .i64 v.scale, .int .i64 128, .int .i64 0] := psiE_f (hV 11 (by decide) (by decide)) (by simp)
      obtain ⟨T1, k1, h12, _⟩ := psiE_t (hV 12 (by decide) (by decide)) (by simp) (by simp)
      obtain ⟨T2, k2, h13, _⟩ := psiE_t (hV 13 (by decide) (by decide)) (by simp) (by simp)
      obtain ⟨T3, k3, h14, _⟩ := psiE_s (hV 14 (by decide) (by decide)) (by simp)
      obtain ⟨y, h15⟩ : ∃ y, V 15 = y := ⟨_, rfl⟩
      rw [hSl] at h12 h13 h14
      simp [frV, dstOf, Act.put, h0, h1, h2, h3, h4, h5, h6, h7, h8, h9, h10, h11, h12, h13, h14, h15]
      clear h0 h1 h2 h3 h4 h5 h6 h7 h8 h9 h10 h11 h12 h13 h14 h15 hV g hold
      have GR : Hid (w.grownBy W0 none) := gD
      clear gD
      go_wp2_with fail
      go_meet
      exact ⟨T3, k3, rfl, rfl, GR.out⟩
  case rest =>
    obtain ⟨T', c', rfl, rfl, g1⟩ := hcut
    obtain ⟨W2, hwc⟩ : ∃ x, x = wc := ⟨_, rfl⟩
    rw [← hwc] at g1 ⊢
    clear hwc
    have cs2 := g1.cell cs (by simp)
    have c32 := g1.cell c3 (by simp)
    have f2 := (HO.out.grow g1).frozen m
    have HO3 : Hid (OwnN (W2.setCell ⟨T, m, none⟩ (.int .i64 8)) N (.slice (some ⟨T, 0, none⟩) n n) n Z) := ((HO.out.grow g1).set hm 8).congr HSz.out
    have HJ3 : Hid (OwnN (W2.setCell ⟨T, m, none⟩ (.int .i64 8)) N (.slice (some ⟨TJ, 0, none⟩) n n) n J) := (HJ.out.grow g1).kept (grown_set _ _ _ _) (.inr (by simp [Value.ownBlock]; omega))
    have HC3 : Hid (Ch w (W2.setCell ⟨T, m, none⟩ (.int .i64 8)) [T, TJ]) := (Ch.of g1).trans (Ch.one (grown_set _ _ _ _) (by simp))
    have HC1 : Hid (w.cell? ⟨B, 1, none⟩ = some (.slice (some ⟨bi, offi, none⟩) n ic)) := c1
    clear g1 HEn HLd HWd c0 c1 d0 d1 d2 d3 d4 d5 d6 d7 d8 cs c3 hSl HSz HO HJ
    have hX : ∀ k, -6 ≤ (8 - Y m) * O k ∧ (8 - Y m) * O k ≤ 6 := fun k => by
      rcases HOr.out k with e | e | e <;> rw [e] <;> omega
    have HX : Hid (∀ k, -6 ≤ (8 - Y m) * O k ∧ (8 - Y m) * O k ≤ 6) := hX
    clear hX
    have hTJw : TJ < w.heap.size := HTJ.out.1
    have hTw : T < w.heap.size := HTJ.out.2
    go_wp2_with fail
    all_goals
      go_loopw [10, 11] (fun l j wr => ∃ k : Nat, j = .int .i64 k ∧ lo ≤ k ∧ k ≤ hi ∧ OwnZ wr w.heap.size l (Lk.nl J U lo k) ∧ OwnN wr N (.slice (some ⟨T, 0, none⟩) n n) n Z ∧ OwnN wr N (.slice (some ⟨TJ, 0, none⟩) n n) n (Lk.mid J U lo k) ∧ Ch w wr [T, TJ]) (fun _ j _ => n - (intOf j).toNat)
      case atStart => exact ⟨lo, by (congr 1; have := HLo.out; omega), Nat.le_refl _, HHi.out.2.2.2, by rw [Lk.nl_low J U lo lo (Nat.le_refl _)]; exact World.ownsRow_nil _ _ _ _, HO3.out, HJ3.out.congr (fun i _ => by unfold Lk.mid; rw [if_neg (by omega)]), HC3.out⟩
      case round =>
        obtain ⟨al, hal⟩ : ∃ al, al = u10 := ⟨_, rfl⟩
        obtain ⟨k, rfl, hk1, hk2, hoZ, hoT, hoJ, hch⟩ := hrel
        rw [← hal] at hoZ ⊢
        clear hal
        have HOZ : Hid (OwnZ wr w.heap.size al (Lk.nl J U lo k)) := hoZ
        have HOT : Hid (OwnN wr N (.slice (some ⟨T, 0, none⟩) n n) n Z) := hoT
        have HOJ : Hid (OwnN wr N (.slice (some ⟨TJ, 0, none⟩) n n) n (Lk.mid J U lo k)) := hoJ
        have HCH : Hid (Ch w wr [T, TJ]) := hch
        have c1r := hch.cell HC1.out (b := B) (by simp; exact ⟨hBT, hBJ⟩)
        have hwr := hch.size
        have hll := Lk.nl_len J U lo k
        obtain ⟨hi1, hi2, hi3, hi4⟩ := HHi.out
        clear hoT hoJ hch
        by_cases hkn : k < n ∧ k < m + 129
        · have hk1' : (k : Int) < n := by omega
          have hk2' : (k : Int) < (m : Int) + 129 := by omega
          have hk2'' : (k : Int) < (m : Int) + 128 + 1 := by omega
          have hkhi := hi3 k hkn.1 hkn.2
          have ck := HOJ.out.cell hkn.1
          have fk := HOJ.out.frozen k
          have emid : Lk.mid J U lo k k = J k := by unfold Lk.mid; rw [if_neg (by omega)]
          rw [emid] at ck
          obtain ⟨ao, cp, rfl, _⟩ := hoZ.slice
          clear hoZ emid
          have HUk := HBu.out k
          have HNl : Hid (Lk.nl J U lo (k + 1) = Lk.nl J U lo k ++ if decide (lo ≤ k) && (Lk.fitB (J k) && !Lk.fitB (U k)) then [(k : Int)] else []) := rfl
          have HMd : Hid (∀ i, Lk.mid J U lo (k + 1) i = if i = k then U k else Lk.mid J U lo k i) := fun i => by
            unfold Lk.mid
            by_cases e : i = k
            · subst e; rw [if_pos (by omega), if_pos rfl]
            · by_cases h1 : lo ≤ i ∧ i < k
              · rw [if_pos (by omega), if_neg e, if_pos h1]
              · rw [if_neg (by omega), if_neg e, if_neg h1]
          have hX := HX.out k
          obtain ⟨z, hz⟩ : ∃ z, z = J k := ⟨_, rfl⟩
          obtain ⟨Lz, hLz⟩ : ∃ Lz, Lz = Lk.nl J U lo k := ⟨_, rfl⟩
          rw [← hz] at ck HUk HNl
          rw [← hLz] at HOZ HNl hll ⊢
          clear hLz
          cases hf : Lk.fitB z
          · rw [hf] at HUk HNl
            have HF : Hid (∀ W, Calls Tryz.prog 66 #[.int .i64 z] W fun e w' => e = .returned (.bool false) ∧ w' = W) := fun W => by rw [← hf]; exact fitb_any z W
            have HM0 : Hid (∀ i, Lk.mid J U lo k i = Lk.mid J U lo (k + 1) i) := fun i => by
              rw [HMd.out]
              by_cases e : i = k
              · subst e
                rw [if_pos rfl, HUk]
                unfold Lk.mid
                rw [if_neg (by omega), ← hz]
                simp
              · rw [if_neg e]
            clear HUk hz
            go_wp2_with (go_at_call 66; refine (HF.out _).mono ?_; rintro e w5 ⟨rfl, hw5⟩; rw [hw5]; clear hw5 w5)
            all_goals exact ⟨⟨k + 1, by go_num, by omega, by omega, HOZ.out.cast (by rw [HNl.out]; simp), HOT.out, HOJ.out.congr (fun i _ => HM0.out i), HCH.out⟩, by simp [intOf]; omega⟩
          · rw [hf] at HUk HNl
            have hzr := Lk.fitB_iff.1 hf
            have HF : Hid (∀ W, Calls Tryz.prog 66 #[.int .i64 z] W fun e w' => e = .returned (.bool true) ∧ w' = W) := fun W => by rw [← hf]; exact fitb_any z W
            have HUe : Hid (U k = z + (8 - Y m) * O k) := by show _ = _; rw [HUk]; simp
            clear HUk hz
            have HOk : Hid (∀ y : Gw wr, Calls Tryz.prog 67 #[.pointer (some ⟨B, 0, none⟩), .int .i64 k, .int .i64 m] y.w fun e w' => e = .returned (.int .i64 (O k)) ∧ y.w.grownBy w' none) := fun y => HOv.out k hkn.1 y.w [T, TJ] (HCH.out.trans (Ch.of y.h)) (by simp; exact ⟨hT1, hT2⟩) (by simp; exact ⟨hBT, hBJ⟩)
            obtain ⟨ok, hok⟩ : ∃ ok, ok = O k := ⟨_, rfl⟩
            rw [← hok] at HOk HUe hX
            clear hok
            go_wp2_with (go_at_call 66; refine (HF.out _).mono ?_; rintro e w5 ⟨rfl, hw5⟩; rw [hw5]; clear hw5 w5)
            all_goals
              refine tail_class (fun w' => ∃ y : Gw wr, w' = y.w) 12 (by kernel_rfl) (by kernel_rfl) ⟨⟨wr.drew, grown_drew (World.grownBy.refl _ _)⟩, rfl⟩ ?_
              have e1 := fun y : Gw wr => y.h.cell ck (by simp)
              simp only [List.take_succ_cons, List.take_zero, List.drop_succ_cons, List.drop_zero]
              repeat (go_big_quiet_step (first | exact rfl | (go_at_call 67; exact Gw.call (HOk.out _))))
              refine wpQuiet_nil ?_
              rintro W8 ⟨y8, hy8⟩
              have g : wr.grownBy W8 none := by rw [hy8]; exact y8.h
              clear hy8 y8 e1 ck fk c1r
              have f8 := (HOJ.out.grow g).frozen k
              have c8 := (HOJ.out.grow g).cell hkn.1
              have hs8 := g.size
              obtain ⟨X, hXe⟩ : ∃ X, X = z + (8 - Y m) * ok := ⟨_, rfl⟩
              have HO9 : Hid (OwnN (W8.setCell ⟨TJ, k, none⟩ (.int .i64 X)) N (.slice (some ⟨TJ, 0, none⟩) n n) n (Lk.mid J U lo (k + 1))) := ((HOJ.out.grow g).set hkn.1 _).congr (fun i hi => by
                unfold setF
                rw [HMd.out, HUe.out, hXe])
              have HT9 : Hid (OwnN (W8.setCell ⟨TJ, k, none⟩ (.int .i64 X)) N (.slice (some ⟨T, 0, none⟩) n n) n Z) := (HOT.out.grow g).kept (grown_set _ _ _ _) (.inr (by simp [Value.ownBlock]; omega))
              have HC9 : Hid (Ch w (W8.setCell ⟨TJ, k, none⟩ (.int .i64 X)) [T, TJ]) := (HCH.out.trans (Ch.of g)).trans (Ch.one (grown_set _ _ _ _) (by simp))
              have HZ9 : Hid (OwnZ (W8.setCell ⟨TJ, k, none⟩ (.int .i64 X)) w.heap.size (.slice ao Lz.length cp) Lz) := (HOZ.out.grow g).kept (grown_set _ _ _ _) (by
                cases hb : (Value.slice ao Lz.length cp).ownBlock with
                | none => exact .inl rfl
                | some b => exact .inr (by have := HOZ.out.base b hb; have := HJ3.out.lt TJ rfl; simp; intro e; subst e; have := hTJw; omega))
              have ck9 : (W8.setCell ⟨TJ, k, none⟩ (.int .i64 X)).cell? ⟨TJ, k, none⟩ = some (.int .i64 X) := World.cell?_setCell_same _ _ _ c8
              have hUX : U k = X := by rw [hXe]; exact HUe.out
              have hsz9 : (W8.setCell ⟨TJ, k, none⟩ (.int .i64 X)).heap.size = W8.heap.size := by simp
              have hs9 : w.heap.size ≤ (W8.setCell ⟨TJ, k, none⟩ (.int .i64 X)).heap.size := HC9.out.size
              rw [hUX] at HNl
              cases hf2 : Lk.fitB X
              · rw [hf2] at HNl
                have HF2 : Hid (∀ W, Calls Tryz.prog 66 #[.int .i64 X] W fun e w' => e = .returned (.bool false) ∧ w' = W) := fun W => by rw [← hf2]; exact fitb_any X W
                clear hUX hf2 HF HOJ HOT HCH HOZ
                rw [← hXe]
                clear hXe hX
                go_wp2_with (first | (go_at_call 66; refine (HF2.out _).mono ?_; rintro e w5 ⟨rfl, hw5⟩; rw [hw5]; clear hw5 w5) | (at_builtin; refine wp_appZ rfl _ _ rfl w.heap.size (.slice ao Lz.length cp) Lz (k : Int) rfl HZ9.out (by rw [hsz9]; rfl) (by omega) hs9 ?_; intro v' w6 ho6 hg6))
                have hne6 : ∀ b, (Value.slice ao Lz.length cp).ownBlock = some b → w.heap.size ≤ b := HZ9.out.base
                have hk6 : ∀ T0, T0 < w.heap.size → (Value.slice (some ⟨T0, 0, none⟩) n n).ownBlock = none ∨ (Value.slice (some ⟨T0, 0, none⟩) n n).ownBlock ≠ (Value.slice ao Lz.length cp).ownBlock := fun T0 h0 => .inr (by
                  show some T0 ≠ _
                  intro e
                  have := hne6 T0 e.symm
                  omega)
                exact ⟨⟨k + 1, by go_num, by omega, by omega, ho6.cast (by rw [HNl.out]; simp [hk1]), HT9.out.kept hg6 (hk6 T hTw), HO9.out.kept hg6 (hk6 TJ hTJw), chApp HC9.out hg6 hne6⟩, by simp [intOf]; omega⟩
              · rw [hf2] at HNl
                have HF2 : Hid (∀ W, Calls Tryz.prog 66 #[.int .i64 X] W fun e w' => e = .returned (.bool true) ∧ w' = W) := fun W => by rw [← hf2]; exact fitb_any X W
                clear hUX hf2 HF HOJ HOT HCH HOZ
                rw [← hXe]
                clear hXe hX
                go_wp2_with (first | (go_at_call 66; refine (HF2.out _).mono ?_; rintro e w5 ⟨rfl, hw5⟩; rw [hw5]; clear hw5 w5))
                exact ⟨⟨k + 1, by go_num, by omega, by omega, HZ9.out.cast (by rw [HNl.out]; simp), HT9.out, HO9.out, HC9.out⟩, by simp [intOf]; omega⟩
        · obtain rfl : k = hi := by
            by_cases h1 : k < n
            · by_cases h2 : k < m + 129
              · exact absurd ⟨h1, h2⟩ hkn
              · omega
            · omega
          have hend : (k : Int) = n ∨ (k : Int) = (m : Int) + 129 := by
            by_cases h1 : k < n
            · by_cases h2 : k < m + 129
              · exact absurd ⟨h1, h2⟩ hkn
              · omega
            · omega
          have HE1 : Hid (∀ i, i < n → Lk.mid J U lo k i = U i) := fun i hi' => by
            unfold Lk.mid
            by_cases h1 : lo ≤ i ∧ i < k
            · rw [if_pos h1]
            · rw [if_neg h1]
              have hl := HLo.out
              exact (HNr.out i hi' (by omega)).symm
          rcases hend with he | he
          all_goals
            go_wp2
            all_goals
              go_ret
              exact ⟨_, rfl, HOZ.out, HOT.out, HOJ.out.congr HE1.out, HCH.out⟩
set_option maxRecDepth 100000 in
set_option maxHeartbeats 16000000 in
theorem plong_c {N : Nat} {w : World} {B : Nat} {P : Lk.PcV} {ia ma : Option Addr} {ic mc T TJ : Nat} {p : Int} {L : Nat → Bool} {J : Nat → Int} {Q : Nat → Prop} (h : Pt N w B 61 P ia ma ic mc (.slice (some ⟨T, 0, none⟩) P.n P.n)) (hTab : TabAt w) (hNw : N ≤ w.heap.size) (hTN : 2 < N)
    (ho : OwnN w N (.slice (some ⟨T, 0, none⟩) P.n P.n) P.n ((P.sh 2).size L)) (hoJ : OwnN w N (.slice (some ⟨TJ, 0, none⟩) P.n P.n) P.n J) (hne : T ≠ TJ) (hBT : B ≠ T) (hBJ : B ≠ TJ) (hP : P.Ok 2 p) (hn : P.n ≤ 1100000) (st : Lk.St (P.sh 2) L J Q) {m : Nat} (hm : m < P.n) (hmj : Lk.jmpB (P.I m).op = true) (hmf : Lk.fitB (J m) = false) :
    Calls Tryz.prog 43 #[.pointer (some ⟨B, 0, none⟩), .int .i64 m, .slice (some ⟨TJ, 0, none⟩) P.n P.n] w fun e w' => ∃ v, e = .returned v ∧ OwnZ w' w.heap.size v (Lk.nl J (Lk.bump (P.sh 2) L J m) (m - 128) (min P.n (m + 129))) ∧
      OwnN w' N (.slice (some ⟨T, 0, none⟩) P.n P.n) P.n ((P.sh 2).size (Lk.with1 L m)) ∧ OwnN w' N (.slice (some ⟨TJ, 0, none⟩) P.n P.n) P.n (Lk.bump (P.sh 2) L J m) ∧ Ch w w' [T, TJ] := by
  have hT1 : N ≤ T := ho.base T rfl
  have hT2 : N ≤ TJ := hoJ.base TJ rfl
  obtain ⟨v, hv⟩ : ∃ v, v = P.I m := ⟨_, rfl⟩
  have hmay := hP.may hm
  have hlab := Lk.lab_jmp hmay.1 hmj
  rw [← hv] at hmj hmay hlab
  have hsz : (P.sh 2).size L m = (P.sh 2).g ∨ (P.sh 2).size L m = (P.sh 2).s m := by unfold Lk.Sh.size; split <;> simp
  have hlen : ((Ru.encT 2 (Lk.lead v 128)).length : Int) = Lk.long 2 := by
    rw [Lk.len_jmp hmj hmay.2 (by decide) (by decide), if_neg (by decide)]
  have hg : (P.sh 2).g = Lk.long 2 := rfl
  have hs3 : (P.sh 2).s m = if 2 = 1 then 8 else 3 := by
    show ((Ru.encT 2 (Lk.bare (P.I m))).length : Int) = _
    rw [← hv]
    exact Lk.len_short hmj hmay.2 hlab.1
  have hlong : Lk.long 2 = 6 := by decide
  have hmore : 0 ≤ Lk.long 2 - (P.sh 2).size L m ∧ Lk.long 2 - (P.sh 2).size L m ≤ 6 := by
    rcases hsz with e | e
    · rw [e, hg]; omega
    · rw [e, hs3, hlong]; decide
  have HLd : Hid (∀ W, Calls Tryz.prog 47 #[.agg #[.int .i64 v.op, .int .i64 v.a, .int .i64 v.b, .int .i64 v.c, .int .i64 v.k, .int .i64 v.sub, .int .i64 v.scale, .int .i64 v.imm, .int .i64 v.label], .int .i64 128] W fun e w' => e = .returned (.agg #[.int .i64 v.op, .int .i64 v.a, .int .i64 v.b, .int .i64 v.c, .int .i64 v.k, .int .i64 v.sub, .int .i64 v.scale, .int .i64 128, .int .i64 0]) ∧ W.grownBy w' none) := fun W => leading_any v 128 W
  obtain ⟨bi, offi, hia, hbi, hin, hrng⟩ := h.ins.at hm
  rw [← hv] at hin hrng
  obtain ⟨SS, hSS⟩ : ∃ SS, SS = Ru.encT 2 (Lk.lead v 128) := ⟨_, rfl⟩
  have hSl : SS.length = 6 := by rw [hSS]; rw [hlong] at hlen; omega
  have HEn : Hid (∀ W, TabAt W → Calls Tryz.prog 61 #[.agg #[.int .i64 v.op, .int .i64 v.a, .int .i64 v.b, .int .i64 v.c, .int .i64 v.k, .int .i64 v.sub, .int .i64 v.scale, .int .i64 128, .int .i64 0]] W fun e w' => ∃ T' c', e = .returned (.tuple #[.slice (some ⟨T', 0, none⟩) SS.length c', .int .i64 0]) ∧ OwnL w' W.heap.size (.slice (some ⟨T', 0, none⟩) SS.length c') SS ∧ W.grownBy w' none) := fun W hW => by
    rw [hSS]
    exact enc_c (Lk.lead v 128) W hW ⟨by show (-9223372036854775808 : Int) ≤ 128; decide, by show (128 : Int) ≤ 9223372036854775807; decide, hrng.s1, hrng.s2⟩ (Lk.may_lead (.inl hmj) hmay.2 (by decide) (by decide))
  clear hSS
  have HOv : Hid (∀ j, j < P.n → ∀ W l, Ch w W l → (∀ k, k ∈ l → N ≤ k) → B ∉ l → Calls Tryz.prog 67 #[.pointer (some ⟨B, 0, none⟩), .int .i64 j, .int .i64 m] W fun e w' => e = .returned (.int .i64 (if Lk.jmpB (P.I j).op then (P.sh 2).over j m else 0)) ∧ W.grownBy w' none) := fun j hj W l hW hl hB => pover_any (h.ch hW hl hB) hP hj hm
  have HOr : Hid (∀ j, (if Lk.jmpB (P.I j).op then (P.sh 2).over j m else 0) = 1 ∨ (if Lk.jmpB (P.I j).op then (P.sh 2).over j m else 0) = -1 ∨ (if Lk.jmpB (P.I j).op then (P.sh 2).over j m else 0) = 0) := fun j => by
    unfold Lk.Sh.over
    repeat' split
    all_goals simp
  have HBu : Hid (∀ j, Lk.bump (P.sh 2) L J m j = if Lk.fitB (J j) then J j + (Lk.long 2 - (P.sh 2).size L m) * (if Lk.jmpB (P.I j).op then (P.sh 2).over j m else 0) else J j) := fun j => rfl
  have HNr : Hid (∀ j, j < P.n → (j + 128 < m ∨ m + 128 < j) → Lk.bump (P.sh 2) L J m j = J j) := fun j hj hw => Lk.bump_near hP.sh st hj hw
  have HSz : Hid (∀ i, i < P.n → setF ((P.sh 2).size L) m 6 i = (P.sh 2).size (Lk.with1 L m) i) := fun i hi => by
    unfold setF Lk.Sh.size Lk.with1
    by_cases e : i = m
    · subst e
      have : (P.sh 2).j i = true := by show Lk.jmpB (P.I i).op = true; rw [← hv]; exact hmj
      simp [this, hg, hlong]
    · simp [e]
  have HPt : Hid (Pt N w B 61 P ia ma ic mc (.slice (some ⟨T, 0, none⟩) P.n P.n)) := h
  have HTb : Hid (TabAt w) := hTab
  have HO : Hid (OwnN w N (.slice (some ⟨T, 0, none⟩) P.n P.n) P.n ((P.sh 2).size L)) := ho
  have HJ : Hid (OwnN w N (.slice (some ⟨TJ, 0, none⟩) P.n P.n) P.n J) := hoJ
  have HTJ : Hid (TJ < w.heap.size ∧ T < w.heap.size) := ⟨hoJ.lt TJ rfl, ho.lt T rfl⟩
  have cs := ho.cell hm
  have c0 := h.c0
  have c1 := h.c1
  have c3 := h.c3
  rw [hia] at c1
  obtain ⟨d0, d1, d2, d3, d4, d5, d6, d7, d8⟩ := hin
  rw [hlong] at hmore HBu
  clear h ho hoJ hTab hv hmay hlab hsz hlen hg hs3 hlong hrng hmj st
  obtain ⟨U, hU⟩ : ∃ U, U = Lk.bump (P.sh 2) L J m := ⟨_, rfl⟩
  obtain ⟨Z, hZ⟩ : ∃ Z, Z = (P.sh 2).size (Lk.with1 L m) := ⟨_, rfl⟩
  obtain ⟨Y, hY⟩ : ∃ Y, Y = (P.sh 2).size L := ⟨_, rfl⟩
  obtain ⟨O, hO⟩ : ∃ O : Nat → Int, O = fun j => if Lk.jmpB (P.I j).op then (P.sh 2).over j m else 0 := ⟨_, rfl⟩
  rw [← hU] at HBu HNr
  rw [← hU, ← hZ]
  rw [← hY] at HO cs hmore HBu HSz
  rw [← hZ] at HSz
  have HOv : Hid (∀ j, j < P.n → ∀ W l, Ch w W l → (∀ k, k ∈ l → N ≤ k) → B ∉ l → Calls Tryz.prog 67 #[.pointer (some ⟨B, 0, none⟩), .int .i64 j, .int .i64 m] W fun e w' => e = .returned (.int .i64 (O j)) ∧ W.grownBy w' none) := by rw [hO]; exact HOv
  have HOr : Hid (∀ j, O j = 1 ∨ O j = -1 ∨ O j = 0) := by rw [hO]; exact HOr
  have HBu : Hid (∀ j, U j = if Lk.fitB (J j) then J j + (6 - Y m) * O j else J j) := by rw [hO]; exact HBu
  clear hU hZ hY hO hia
  obtain ⟨n, hnn⟩ : ∃ n, n = P.n := ⟨_, rfl⟩
  rw [← hnn] at HOv HNr HSz HPt HO HJ c1 c3 hn hm ⊢
  clear hnn
  have hm' : (m : Int) < n := by omega
  have hn' : (n : Int) ≤ 1100000 := by omega
  obtain ⟨lo, hlo⟩ : ∃ lo, lo = m - 128 := ⟨_, rfl⟩
  rw [← hlo]
  obtain ⟨hi, hhi⟩ : ∃ hi, hi = min n (m + 129) := ⟨_, rfl⟩
  rw [← hhi]
  have HLo : Hid (lo = m - 128) := hlo
  have HHi : Hid (hi ≤ n ∧ hi ≤ m + 129 ∧ (∀ k, k < n → k < m + 129 → k < hi) ∧ lo ≤ hi) := by
    show _ ∧ _ ∧ _ ∧ _
    rw [hhi, hlo]
    refine ⟨Nat.min_le_left _ _, Nat.min_le_right _ _, fun k h1 h2 => Nat.lt_min.2 ⟨h1, h2⟩, ?_⟩
    exact Nat.le_min.2 ⟨by omega, by omega⟩
  clear hlo hhi
  go_enter Tryz.func43, Tryz.ntmps43
  go_wp2_with fail
  have HWd : Hid (∀ W, w.grownBy W none → TabAt W) := fun W g => HTb.out.kept g (by simp)
  have hmn : ¬ n ≤ m := by omega
  go_cut [7, 8] (fun b e wx => ∃ T' c', b = .slice (some ⟨T', 0, none⟩) 6 c' ∧ e = .int .i64 0 ∧ w.grownBy wx none)
  case first =>
    refine region_late 16 15 _ _ _ (psiE [.pointer (some ⟨B, 0, none⟩), .pointer (some ⟨B, 0, none⟩), .pointer (some ⟨B, 0, none⟩), .func (.func 61) #[] #[], .pointer (some ⟨B, 0, none⟩), .pointer (some ⟨B, 0, none⟩), .pointer (some ⟨B, 1, none⟩), .slice (some ⟨bi, offi, none⟩) n ic, .int .i64 (m : Int), .pointer (some ⟨bi, offi + m * 9, none⟩), .agg #[.int .i64 v.op, .int .i64 v.a, .int .i64 v.b, .int .i64 v.c, .int .i64 v.k, .int .i64 v.sub, .int .i64 v.scale, .int .i64 v.imm, .int .i64 v.label], .agg #[.int .i64 v.op, .int .i64 v.a, .int .i64 v.b, .int .i64 v.c, .int .i64 v.k, .int .i64 v.sub, .int .i64 v.scale, .int .i64 128, .int .i64 0]] w.heap.size SS) (by kernel_rfl) (by kernel_rfl) rfl rfl rfl (by kernel_rfl) (by kernel_rfl) (fun i x w0 w1 hi h g => psiE_stable h g) ?_ ?_ ?_
    · simp only [List.take_succ_cons, List.take_zero]
      refine ⟨?_, ?_, ?_, ?_, ?_, ?_, ?_, ?_, ?_, ?_, ?_, ?_, ?_, ?_, ?_, ?_, trivial⟩
      · intro V W0 A g hV hs hz
        have gD : w.grownBy W0 none := grown_trans (grown_drew (World.grownBy.refl _ none)) g
        have e00 := hz 0 (.pointer (some ⟨B, 0, none⟩)) (by kernel_rfl) rfl
        clear hV hs hz
        refine outO_val (v := .pointer (some ⟨B, 0, none⟩)) (w' := W0) ?_ (World.grownBy.refl _ _) (psiE_mk (by simp) rfl)
        simp [go_sem, e00]
      · intro V W0 A g hV hs hz
        have gD : w.grownBy W0 none := grown_trans (grown_drew (World.grownBy.refl _ none)) g
        have q0 : V 0 = .pointer (some ⟨B, 0, none⟩) := psiE_f (hV 0 (by kernel_rfl)) (by simp)
        have e0 := hs 13 0 (by kernel_rfl) (by kernel_rfl)
        clear hV hs hz
        refine outO_val (v := .pointer (some ⟨B, 0, none⟩)) (w' := W0) ?_ (World.grownBy.refl _ _) (psiE_mk (by simp) rfl)
        simp [go_sem, q0, e0]
      · intro V W0 A g hV hs hz
        have gD : w.grownBy W0 none := grown_trans (grown_drew (World.grownBy.refl _ none)) g
        have q1 : V 1 = .pointer (some ⟨B, 0, none⟩) := psiE_f (hV 1 (by kernel_rfl)) (by simp)
        have e1 := hs 14 1 (by kernel_rfl) (by kernel_rfl)
        clear hV hs hz
        refine outO_val (v := .pointer (some ⟨B, 0, none⟩)) (w' := W0) ?_ (World.grownBy.refl _ _) (psiE_mk (by simp) rfl)
        simp [go_sem, q1, e1]
      · intro V W0 A g hV hs hz
        have gD : w.grownBy W0 none := grown_trans (grown_drew (World.grownBy.refl _ none)) g
        have q2 : V 2 = .pointer (some ⟨B, 0, none⟩) := psiE_f (hV 2 (by kernel_rfl)) (by simp)
        have e2 := hs 15 2 (by kernel_rfl) (by kernel_rfl)
        have x0 := gD.cell c0 (by simp)
        clear hV hs hz
        refine outO_val (v := .func (.func 61) #[] #[]) (w' := W0) ?_ (World.grownBy.refl _ _) (psiE_mk (by simp) rfl)
        simp [go_sem, q2, e2, x0]
      · intro V W0 A g hV hs hz
        have gD : w.grownBy W0 none := grown_trans (grown_drew (World.grownBy.refl _ none)) g
        have e00 := hz 0 (.pointer (some ⟨B, 0, none⟩)) (by kernel_rfl) rfl
        clear hV hs hz
        refine outO_val (v := .pointer (some ⟨B, 0, none⟩)) (w' := W0) ?_ (World.grownBy.refl _ _) (psiE_mk (by simp) rfl)
        simp [go_sem, e00]
      · intro V W0 A g hV hs hz
        have gD : w.grownBy W0 none := grown_trans (grown_drew (World.grownBy.refl _ none)) g
        have q4 : V 4 = .pointer (some ⟨B, 0, none⟩) := psiE_f (hV 4 (by kernel_rfl)) (by simp)
        have e4 := hs 17 4 (by kernel_rfl) (by kernel_rfl)
        clear hV hs hz
        refine outO_val (v := .pointer (some ⟨B, 0, none⟩)) (w' := W0) ?_ (World.grownBy.refl _ _) (psiE_mk (by simp) rfl)
        simp [go_sem, q4, e4]
      · intro V W0 A g hV hs hz
        have gD : w.grownBy W0 none := grown_trans (grown_drew (World.grownBy.refl _ none)) g
        have q5 : V 5 = .pointer (some ⟨B, 0, none⟩) := psiE_f (hV 5 (by kernel_rfl)) (by simp)
        have e5 := hs 18 5 (by kernel_rfl) (by kernel_rfl)
        clear hV hs hz
        refine outO_val (v := .pointer (some ⟨B, 1, none⟩)) (w' := W0) ?_ (World.grownBy.refl _ _) (psiE_mk (by simp) rfl)
        simp [go_sem, q5, e5]
      · intro V W0 A g hV hs hz
        have gD : w.grownBy W0 none := grown_trans (grown_drew (World.grownBy.refl _ none)) g
        have q6 : V 6 = .pointer (some ⟨B, 1, none⟩) := psiE_f (hV 6 (by kernel_rfl)) (by simp)
        have e6 := hs 19 6 (by kernel_rfl) (by kernel_rfl)
        have x0 := gD.cell c1 (by simp)
        clear hV hs hz
        refine outO_val (v := .slice (some ⟨bi, offi, none⟩) n ic) (w' := W0) ?_ (World.grownBy.refl _ _) (psiE_mk (by simp) rfl)
        simp [go_sem, q6, e6, x0]
      · intro V W0 A g hV hs hz
        have gD : w.grownBy W0 none := grown_trans (grown_drew (World.grownBy.refl _ none)) g
        have e01 := hz 1 (.int .i64 (m : Int)) (by kernel_rfl) rfl
        clear hV hs hz
        refine outO_val (v := .int .i64 (m : Int)) (w' := W0) ?_ (World.grownBy.refl _ _) (psiE_mk (by simp) rfl)
        simp [go_sem, e01]
      · intro V W0 A g hV hs hz
        have gD : w.grownBy W0 none := grown_trans (grown_drew (World.grownBy.refl _ none)) g
        have q7 : V 7 = .slice (some ⟨bi, offi, none⟩) n ic := psiE_f (hV 7 (by kernel_rfl)) (by simp)
        have e7 := hs 20 7 (by kernel_rfl) (by kernel_rfl)
        have q8 : V 8 = .int .i64 (m : Int) := psiE_f (hV 8 (by kernel_rfl)) (by simp)
        have e8 := hs 21 8 (by kernel_rfl) (by kernel_rfl)
        clear hV hs hz
        refine outO_val (v := .pointer (some ⟨bi, offi + m * 9, none⟩)) (w' := W0) ?_ (World.grownBy.refl _ _) (psiE_mk (by simp) rfl)
        simp [go_sem, q7, e7, q8, e8, hmn]
      · intro V W0 A g hV hs hz
        have gD : w.grownBy W0 none := grown_trans (grown_drew (World.grownBy.refl _ none)) g
        have q9 : V 9 = .pointer (some ⟨bi, offi + m * 9, none⟩) := psiE_f (hV 9 (by kernel_rfl)) (by simp)
        have e9 := hs 22 9 (by kernel_rfl) (by kernel_rfl)
        have x0 := gD.cell d0 (by simp)
        have x1 := gD.cell d1 (by simp)
        have x2 := gD.cell d2 (by simp)
        have x3 := gD.cell d3 (by simp)
        have x4 := gD.cell d4 (by simp)
        have x5 := gD.cell d5 (by simp)
        have x6 := gD.cell d6 (by simp)
        have x7 := gD.cell d7 (by simp)
        have x8 := gD.cell d8 (by simp)
        clear hV hs hz
        refine outO_val (v := .agg #[.int .i64 v.op, .int .i64 v.a, .int .i64 v.b, .int .i64 v.c, .int .i64 v.k, .int .i64 v.sub, .int .i64 v.scale, .int .i64 v.imm, .int .i64 v.label]) (w' := W0) ?_ (World.grownBy.refl _ _) (psiE_mk (by simp) rfl)
        simp [go_sem, q9, e9, x0, x1, x2, x3, x4, x5, x6, x7, x8]
      · intro V W0 A g hV hs hz
        have gD : w.grownBy W0 none := grown_trans (grown_drew (World.grownBy.refl _ none)) g
        have q10 : V 10 = .agg #[.int .i64 v.op, .int .i64 v.a, .int .i64 v.b, .int .i64 v.c, .int .i64 v.k, .int .i64 v.sub, .int .i64 v.scale, .int .i64 v.imm, .int .i64 v.label] := psiE_f (hV 10 (by kernel_rfl)) (by simp)
        have e10 := hs 23 10 (by kernel_rfl) (by kernel_rfl)
        clear hV hs hz
        refine outO_call (f := 47) ?_ ((HLd.out W0).mono fun e w2 ⟨he, hg⟩ => ⟨_, he, hg, psiE_mk (by simp) rfl⟩)
        simp [go_sem, q10, e10]
      · intro V W0 A g hV hs hz
        have gD : w.grownBy W0 none := grown_trans (grown_drew (World.grownBy.refl _ none)) g
        have q3 : V 3 = .func (.func 61) #[] #[] := psiE_f (hV 3 (by kernel_rfl)) (by simp)
        have e3 := hs 16 3 (by kernel_rfl) (by kernel_rfl)
        have q11 : V 11 = .agg #[.int .i64 v.op, .int .i64 v.a, .int .i64 v.b, .int .i64 v.c, .int .i64 v.k, .int .i64 v.sub, .int .i64 v.scale, .int .i64 128, .int .i64 0] := psiE_f (hV 11 (by kernel_rfl)) (by simp)
        have e11 := hs 24 11 (by kernel_rfl) (by kernel_rfl)
        clear hV hs hz
        refine outO_call (f := 61) ?_ (psi_call (by have := g.size; exact this) (by simp) (by simp) (HEn.out W0 (HWd.out W0 gD)))
        simp [go_sem, q3, e3, q11, e11]
      · intro V W0 A g hV hs hz
        obtain ⟨T1, k1, h1, o1⟩ := psiE_t (hV 12 (by kernel_rfl)) (by simp) (by simp)
        have e1 := hs 25 12 (by kernel_rfl) (by kernel_rfl)
        clear hV hs hz
        refine outO_val (v := V 12) (w' := W0) ?_ (World.grownBy.refl _ _) (psiE_mt (by simp) (by simp) ⟨T1, k1, h1, o1⟩)
        simp [go_sem, e1]
      · intro V W0 A g hV hs hz
        obtain ⟨T1, k1, h1, o1⟩ := psiE_t (hV 13 (by kernel_rfl)) (by simp) (by simp)
        have e1 := hs 12 13 (by kernel_rfl) (by kernel_rfl)
        clear hV hs hz
        refine outO_val (v := .slice (some ⟨T1, 0, none⟩) SS.length k1) (w' := W0) ?_ (World.grownBy.refl _ _) (psiE_ms (by simp) ⟨T1, k1, rfl, o1⟩)
        simp [go_sem, e1, h1]
      · intro V W0 A g hV hs hz
        obtain ⟨T1, k1, h1, o1⟩ := psiE_t (hV 13 (by kernel_rfl)) (by simp) (by simp)
        have e1 := hs 12 13 (by kernel_rfl) (by kernel_rfl)
        clear hV hs hz
        refine outO_val (v := .int .i64 0) (w' := W0) ?_ (World.grownBy.refl _ _) (psiE_me (by simp) rfl)
        simp [go_sem, e1, h1]
    · intro V W0 g hV
      have gD : w.grownBy W0 none := grown_trans (grown_drew (World.grownBy.refl _ none)) g
      have h0 : V 0 = .pointer (some ⟨B, 0, none⟩) := psiE_f (hV 0 (by decide)) (by simp)
      have h1 : V 1 = .pointer (some ⟨B, 0, none⟩) := psiE_f (hV 1 (by decide)) (by simp)
      have h2 : V 2 = .pointer (some ⟨B, 0, none⟩) := psiE_f (hV 2 (by decide)) (by simp)
      have h3 : V 3 = .func (.func 61) #[] #[] := psiE_f (hV 3 (by decide)) (by simp)
      have h4 : V 4 = .pointer (some ⟨B, 0, none⟩) := psiE_f (hV 4 (by decide)) (by simp)
      have h5 : V 5 = .pointer (some ⟨B, 0, none⟩) := psiE_f (hV 5 (by decide)) (by simp)
      have h6 : V 6 = .pointer (some ⟨B, 1, none⟩) := psiE_f (hV 6 (by decide)) (by simp)
      have h7 : V 7 = .slice (some ⟨bi, offi, none⟩) n ic := psiE_f (hV 7 (by decide)) (by simp)
      have h8 : V 8 = .int .i64 (m : Int) := psiE_f (hV 8 (by decide)) (by simp)
      have h9 : V 9 = .pointer (some ⟨bi, offi + m * 9, none⟩) := psiE_f (hV 9 (by decide)) (by simp)
      have h10 : V 10 = .agg #[.int .i64 v.op, .int .i64 v.a, .int .i64 v.b, .int .i64 v.c, .int .i64 v.k, .int .i64 v.sub, .int .i64 v.scale, .int .i64 v.imm, .int .i64 v.label] := psiE_f (hV 10 (by decide)) (by simp)
      have h11 : V 11 = .agg #[.int .i64 v.op, .int .i64 v.a, .int .i64 v.b, .int .i64 v.c, .int .i64 v.k, .int .i64 v.sub, .int .i64 v.scale, .int .i64 128, .int .i64 0] := psiE_f (hV 11 (by decide)) (by simp)
      obtain ⟨T1, k1, h12, _⟩ := psiE_t (hV 12 (by decide)) (by simp) (by simp)
      obtain ⟨T2, k2, h13, _⟩ := psiE_t (hV 13 (by decide)) (by simp) (by simp)
      obtain ⟨T3, k3, h14, _⟩ := psiE_s (hV 14 (by decide)) (by simp)
      have h15 := psiE_e (hV 15 (by decide)) (by simp)
      rw [hSl] at h12 h13 h14
      simp [frV, dstOf, Act.put, h0, h1, h2, h3, h4, h5, h6, h7, h8, h9, h10, h11, h12, h13, h14, h15]
      clear h0 h1 h2 h3 h4 h5 h6 h7 h8 h9 h10 h11 h12 h13 h14 h15 hV g
      have GR : Hid (w.grownBy W0 none) := gD
      clear gD
      go_wp2_with fail
      go_meet
      exact ⟨T3, k3, rfl, rfl, GR.out⟩
    · intro V W0 g hV hold
      have gD : w.grownBy W0 none := grown_trans (grown_drew (World.grownBy.refl _ none)) g
      have h0 : V 0 = .pointer (some ⟨B, 0, none⟩) := psiE_f (hV 0 (by decide) (by decide)) (by simp)
      have h1 : V 1 = .pointer (some ⟨B, 0, none⟩) := psiE_f (hV 1 (by decide) (by decide)) (by simp)
      have h2 : V 2 = .pointer (some ⟨B, 0, none⟩) := psiE_f (hV 2 (by decide) (by decide)) (by simp)
      have h3 : V 3 = .func (.func 61) #[] #[] := psiE_f (hV 3 (by decide) (by decide)) (by simp)
      have h4 : V 4 = .pointer (some ⟨B, 0, none⟩) := psiE_f (hV 4 (by decide) (by decide)) (by simp)
      have h5 : V 5 = .pointer (some ⟨B, 0, none⟩) := psiE_f (hV 5 (by decide) (by decide)) (by simp)
      have h6 : V 6 = .pointer (some ⟨B, 1, none⟩) := psiE_f (hV 6 (by decide) (by decide)) (by simp)
      have h7 : V 7 = .slice (some ⟨bi, offi, none⟩) n ic := psiE_f (hV 7 (by decide) (by decide)) (by simp)
      have h8 : V 8 = .int .i64 (m : Int) := psiE_f (hV 8 (by decide) (by decide)) (by simp)
      have h9 : V 9 = .pointer (some ⟨bi, offi + m * 9, none⟩) := psiE_f (hV 9 (by decide) (by decide)) (by simp)
      have h10 : V 10 = .agg #[.int .i64 v.op, .int .i64 v.a, .int .i64 v.b, .int .i64 v.c, .int .i64 v.k, .int .i64 v.sub, .int .i64 v.scale, .int .i64 v.imm, .int .i64 v.label] := psiE_f (hV 10 (by decide) (by decide)) (by simp)
      have h11 : V 11 = .agg #[.int .i64 v.op, .int .i64 v.a, .int .i64 v.b, .int .i64 v.c, .int .i64 v.k, .int .i64 v.sub, .int .i64 v.scale, .int .i64 128, .int .i64 0] := psiE_f (hV 11 (by decide) (by decide)) (by simp)
      obtain ⟨T1, k1, h12, _⟩ := psiE_t (hV 12 (by decide) (by decide)) (by simp) (by simp)
      obtain ⟨T2, k2, h13, _⟩ := psiE_t (hV 13 (by decide) (by decide)) (by simp) (by simp)
      obtain ⟨T3, k3, h14, _⟩ := psiE_s (hV 14 (by decide) (by decide)) (by simp)
      obtain ⟨y, h15⟩ : ∃ y, V 15 = y := ⟨_, rfl⟩
      rw [hSl] at h12 h13 h14
      simp [frV, dstOf, Act.put, h0, h1, h2, h3, h4, h5, h6, h7, h8, h9, h10, h11, h12, h13, h14, h15]
      clear h0 h1 h2 h3 h4 h5 h6 h7 h8 h9 h10 h11 h12 h13 h14 h15 hV g hold
      have GR : Hid (w.grownBy W0 none) := gD
      clear gD
      go_wp2_with fail
      go_meet
      exact ⟨T3, k3, rfl, rfl, GR.out⟩
  case rest =>
    obtain ⟨T', c', rfl, rfl, g1⟩ := hcut
    obtain ⟨W2, hwc⟩ : ∃ x, x = wc := ⟨_, rfl⟩
    rw [← hwc] at g1 ⊢
    clear hwc
    have cs2 := g1.cell cs (by simp)
    have c32 := g1.cell c3 (by simp)
    have f2 := (HO.out.grow g1).frozen m
    have HO3 : Hid (OwnN (W2.setCell ⟨T, m, none⟩ (.int .i64 6)) N (.slice (some ⟨T, 0, none⟩) n n) n Z) := ((HO.out.grow g1).set hm 6).congr HSz.out
    have HJ3 : Hid (OwnN (W2.setCell ⟨T, m, none⟩ (.int .i64 6)) N (.slice (some ⟨TJ, 0, none⟩) n n) n J) := (HJ.out.grow g1).kept (grown_set _ _ _ _) (.inr (by simp [Value.ownBlock]; omega))
    have HC3 : Hid (Ch w (W2.setCell ⟨T, m, none⟩ (.int .i64 6)) [T, TJ]) := (Ch.of g1).trans (Ch.one (grown_set _ _ _ _) (by simp))
    have HC1 : Hid (w.cell? ⟨B, 1, none⟩ = some (.slice (some ⟨bi, offi, none⟩) n ic)) := c1
    clear g1 HEn HLd HWd c0 c1 d0 d1 d2 d3 d4 d5 d6 d7 d8 cs c3 hSl HSz HO HJ
    have hX : ∀ k, -6 ≤ (6 - Y m) * O k ∧ (6 - Y m) * O k ≤ 6 := fun k => by
      rcases HOr.out k with e | e | e <;> rw [e] <;> omega
    have HX : Hid (∀ k, -6 ≤ (6 - Y m) * O k ∧ (6 - Y m) * O k ≤ 6) := hX
    clear hX
    have hTJw : TJ < w.heap.size := HTJ.out.1
    have hTw : T < w.heap.size := HTJ.out.2
    go_wp2_with fail
    all_goals
      go_loopw [10, 11] (fun l j wr => ∃ k : Nat, j = .int .i64 k ∧ lo ≤ k ∧ k ≤ hi ∧ OwnZ wr w.heap.size l (Lk.nl J U lo k) ∧ OwnN wr N (.slice (some ⟨T, 0, none⟩) n n) n Z ∧ OwnN wr N (.slice (some ⟨TJ, 0, none⟩) n n) n (Lk.mid J U lo k) ∧ Ch w wr [T, TJ]) (fun _ j _ => n - (intOf j).toNat)
      case atStart => exact ⟨lo, by (congr 1; have := HLo.out; omega), Nat.le_refl _, HHi.out.2.2.2, by rw [Lk.nl_low J U lo lo (Nat.le_refl _)]; exact World.ownsRow_nil _ _ _ _, HO3.out, HJ3.out.congr (fun i _ => by unfold Lk.mid; rw [if_neg (by omega)]), HC3.out⟩
      case round =>
        obtain ⟨al, hal⟩ : ∃ al, al = u10 := ⟨_, rfl⟩
        obtain ⟨k, rfl, hk1, hk2, hoZ, hoT, hoJ, hch⟩ := hrel
        rw [← hal] at hoZ ⊢
        clear hal
        have HOZ : Hid (OwnZ wr w.heap.size al (Lk.nl J U lo k)) := hoZ
        have HOT : Hid (OwnN wr N (.slice (some ⟨T, 0, none⟩) n n) n Z) := hoT
        have HOJ : Hid (OwnN wr N (.slice (some ⟨TJ, 0, none⟩) n n) n (Lk.mid J U lo k)) := hoJ
        have HCH : Hid (Ch w wr [T, TJ]) := hch
        have c1r := hch.cell HC1.out (b := B) (by simp; exact ⟨hBT, hBJ⟩)
        have hwr := hch.size
        have hll := Lk.nl_len J U lo k
        obtain ⟨hi1, hi2, hi3, hi4⟩ := HHi.out
        clear hoT hoJ hch
        by_cases hkn : k < n ∧ k < m + 129
        · have hk1' : (k : Int) < n := by omega
          have hk2' : (k : Int) < (m : Int) + 129 := by omega
          have hk2'' : (k : Int) < (m : Int) + 128 + 1 := by omega
          have hkhi := hi3 k hkn.1 hkn.2
          have ck := HOJ.out.cell hkn.1
          have fk := HOJ.out.frozen k
          have emid : Lk.mid J U lo k k = J k := by unfold Lk.mid; rw [if_neg (by omega)]
          rw [emid] at ck
          obtain ⟨ao, cp, rfl, _⟩ := hoZ.slice
          clear hoZ emid
          have HUk := HBu.out k
          have HNl : Hid (Lk.nl J U lo (k + 1) = Lk.nl J U lo k ++ if decide (lo ≤ k) && (Lk.fitB (J k) && !Lk.fitB (U k)) then [(k : Int)] else []) := rfl
          have HMd : Hid (∀ i, Lk.mid J U lo (k + 1) i = if i = k then U k else Lk.mid J U lo k i) := fun i => by
            unfold Lk.mid
            by_cases e : i = k
            · subst e; rw [if_pos (by omega), if_pos rfl]
            · by_cases h1 : lo ≤ i ∧ i < k
              · rw [if_pos (by omega), if_neg e, if_pos h1]
              · rw [if_neg (by omega), if_neg e, if_neg h1]
          have hX := HX.out k
          obtain ⟨z, hz⟩ : ∃ z, z = J k := ⟨_, rfl⟩
          obtain ⟨Lz, hLz⟩ : ∃ Lz, Lz = Lk.nl J U lo k := ⟨_, rfl⟩
          rw [← hz] at ck HUk HNl
          rw [← hLz] at HOZ HNl hll ⊢
          clear hLz
          cases hf : Lk.fitB z
          · rw [hf] at HUk HNl
            have HF : Hid (∀ W, Calls Tryz.prog 66 #[.int .i64 z] W fun e w' => e = .returned (.bool false) ∧ w' = W) := fun W => by rw [← hf]; exact fitb_any z W
            have HM0 : Hid (∀ i, Lk.mid J U lo k i = Lk.mid J U lo (k + 1) i) := fun i => by
              rw [HMd.out]
              by_cases e : i = k
              · subst e
                rw [if_pos rfl, HUk]
                unfold Lk.mid
                rw [if_neg (by omega), ← hz]
                simp
              · rw [if_neg e]
            clear HUk hz
            go_wp2_with (go_at_call 66; refine (HF.out _).mono ?_; rintro e w5 ⟨rfl, hw5⟩; rw [hw5]; clear hw5 w5)
            all_goals exact ⟨⟨k + 1, by go_num, by omega, by omega, HOZ.out.cast (by rw [HNl.out]; simp), HOT.out, HOJ.out.congr (fun i _ => HM0.out i), HCH.out⟩, by simp [intOf]; omega⟩
          · rw [hf] at HUk HNl
            have hzr := Lk.fitB_iff.1 hf
            have HF : Hid (∀ W, Calls Tryz.prog 66 #[.int .i64 z] W fun e w' => e = .returned (.bool true) ∧ w' = W) := fun W => by rw [← hf]; exact fitb_any z W
            have HUe : Hid (U k = z + (6 - Y m) * O k) := by show _ = _; rw [HUk]; simp
            clear HUk hz
            have HOk : Hid (∀ y : Gw wr, Calls Tryz.prog 67 #[.pointer (some ⟨B, 0, none⟩), .int .i64 k, .int .i64 m] y.w fun e w' => e = .returned (.int .i64 (O k)) ∧ y.w.grownBy w' none) := fun y => HOv.out k hkn.1 y.w [T, TJ] (HCH.out.trans (Ch.of y.h)) (by simp; exact ⟨hT1, hT2⟩) (by simp; exact ⟨hBT, hBJ⟩)
            obtain ⟨ok, hok⟩ : ∃ ok, ok = O k := ⟨_, rfl⟩
            rw [← hok] at HOk HUe hX
            clear hok
            go_wp2_with (go_at_call 66; refine (HF.out _).mono ?_; rintro e w5 ⟨rfl, hw5⟩; rw [hw5]; clear hw5 w5)
            all_goals
              refine tail_class (fun w' => ∃ y : Gw wr, w' = y.w) 12 (by kernel_rfl) (by kernel_rfl) ⟨⟨wr.drew, grown_drew (World.grownBy.refl _ _)⟩, rfl⟩ ?_
              have e1 := fun y : Gw wr => y.h.cell ck (by simp)
              simp only [List.take_succ_cons, List.take_zero, List.drop_succ_cons, List.drop_zero]
              repeat (go_big_quiet_step (first | exact rfl | (go_at_call 67; exact Gw.call (HOk.out _))))
              refine wpQuiet_nil ?_
              rintro W8 ⟨y8, hy8⟩
              have g : wr.grownBy W8 none := by rw [hy8]; exact y8.h
              clear hy8 y8 e1 ck fk c1r
              have f8 := (HOJ.out.grow g).frozen k
              have c8 := (HOJ.out.grow g).cell hkn.1
              have hs8 := g.size
              obtain ⟨X, hXe⟩ : ∃ X, X = z + (6 - Y m) * ok := ⟨_, rfl⟩
              have HO9 : Hid (OwnN (W8.setCell ⟨TJ, k, none⟩ (.int .i64 X)) N (.slice (some ⟨TJ, 0, none⟩) n n) n (Lk.mid J U lo (k + 1))) := ((HOJ.out.grow g).set hkn.1 _).congr (fun i hi => by
                unfold setF
                rw [HMd.out, HUe.out, hXe])
              have HT9 : Hid (OwnN (W8.setCell ⟨TJ, k, none⟩ (.int .i64 X)) N (.slice (some ⟨T, 0, none⟩) n n) n Z) := (HOT.out.grow g).kept (grown_set _ _ _ _) (.inr (by simp [Value.ownBlock]; omega))
              have HC9 : Hid (Ch w (W8.setCell ⟨TJ, k, none⟩ (.int .i64 X)) [T, TJ]) := (HCH.out.trans (Ch.of g)).trans (Ch.one (grown_set _ _ _ _) (by simp))
              have HZ9 : Hid (OwnZ (W8.setCell ⟨TJ, k, none⟩ (.int .i64 X)) w.heap.size (.slice ao Lz.length cp) Lz) := (HOZ.out.grow g).kept (grown_set _ _ _ _) (by
                cases hb : (Value.slice ao Lz.length cp).ownBlock with
                | none => exact .inl rfl
                | some b => exact .inr (by have := HOZ.out.base b hb; have := HJ3.out.lt TJ rfl; simp; intro e; subst e; have := hTJw; omega))
              have ck9 : (W8.setCell ⟨TJ, k, none⟩ (.int .i64 X)).cell? ⟨TJ, k, none⟩ = some (.int .i64 X) := World.cell?_setCell_same _ _ _ c8
              have hUX : U k = X := by rw [hXe]; exact HUe.out
              have hsz9 : (W8.setCell ⟨TJ, k, none⟩ (.int .i64 X)).heap.size = W8.heap.size := by simp
              have hs9 : w.heap.size ≤ (W8.setCell ⟨TJ, k, none⟩ (.int .i64 X)).heap.size := HC9.out.size
              rw [hUX] at HNl
              cases hf2 : Lk.fitB X
              · rw [hf2] at HNl
                have HF2 : Hid (∀ W, Calls Tryz.prog 66 #[.int .i64 X] W fun e w' => e = .returned (.bool false) ∧ w' = W) := fun W => by rw [← hf2]; exact fitb_any X W
                clear hUX hf2 HF HOJ HOT HCH HOZ
                rw [← hXe]
                clear hXe hX
                go_wp2_with (first | (go_at_call 66; refine (HF2.out _).mono ?_; rintro e w5 ⟨rfl, hw5⟩; rw [hw5]; clear hw5 w5) | (at_builtin; refine wp_appZ rfl _ _ rfl w.heap.size (.slice ao Lz.length cp) Lz (k : Int) rfl HZ9.out (by rw [hsz9]; rfl) (by omega) hs9 ?_; intro v' w6 ho6 hg6))
                have hne6 : ∀ b, (Value.slice ao Lz.length cp).ownBlock = some b → w.heap.size ≤ b := HZ9.out.base
                have hk6 : ∀ T0, T0 < w.heap.size → (Value.slice (some ⟨T0, 0, none⟩) n n).ownBlock = none ∨ (Value.slice (some ⟨T0, 0, none⟩) n n).ownBlock ≠ (Value.slice ao Lz.length cp).ownBlock := fun T0 h0 => .inr (by
                  show some T0 ≠ _
                  intro e
                  have := hne6 T0 e.symm
                  omega)
                exact ⟨⟨k + 1, by go_num, by omega, by omega, ho6.cast (by rw [HNl.out]; simp [hk1]), HT9.out.kept hg6 (hk6 T hTw), HO9.out.kept hg6 (hk6 TJ hTJw), chApp HC9.out hg6 hne6⟩, by simp [intOf]; omega⟩
              · rw [hf2] at HNl
                have HF2 : Hid (∀ W, Calls Tryz.prog 66 #[.int .i64 X] W fun e w' => e = .returned (.bool true) ∧ w' = W) := fun W => by rw [← hf2]; exact fitb_any X W
                clear hUX hf2 HF HOJ HOT HCH HOZ
                rw [← hXe]
                clear hXe hX
                go_wp2_with (first | (go_at_call 66; refine (HF2.out _).mono ?_; rintro e w5 ⟨rfl, hw5⟩; rw [hw5]; clear hw5 w5))
                exact ⟨⟨k + 1, by go_num, by omega, by omega, HZ9.out.cast (by rw [HNl.out]; simp), HT9.out, HO9.out, HC9.out⟩, by simp [intOf]; omega⟩
        · obtain rfl : k = hi := by
            by_cases h1 : k < n
            · by_cases h2 : k < m + 129
              · exact absurd ⟨h1, h2⟩ hkn
              · omega
            · omega
          have hend : (k : Int) = n ∨ (k : Int) = (m : Int) + 129 := by
            by_cases h1 : k < n
            · by_cases h2 : k < m + 129
              · exact absurd ⟨h1, h2⟩ hkn
              · omega
            · omega
          have HE1 : Hid (∀ i, i < n → Lk.mid J U lo k i = U i) := fun i hi' => by
            unfold Lk.mid
            by_cases h1 : lo ≤ i ∧ i < k
            · rw [if_pos h1]
            · rw [if_neg h1]
              have hl := HLo.out
              exact (HNr.out i hi' (by omega)).symm
          rcases hend with he | he
          all_goals
            go_wp2
            all_goals
              go_ret
              exact ⟨_, rfl, HOZ.out, HOT.out, HOJ.out.congr HE1.out, HCH.out⟩
end Go.Proofs.YtkiockffejlnhaaGreatDoor

/- link's growing, as plain lists: what waits, what has come up. -/
namespace Go.Proofs.YtkiockffejlnhaaGreatDoor
open Go.RowKit
set_option linter.unusedVariables false
namespace Lk
def FarAt (P : Sh) (J : Nat → Int) (x : Int) : Prop := ∃ i : Nat, i < P.n ∧ x = i ∧ P.j i = true ∧ fitB (J i) = false
structure Wl (P : Sh) (L : Nat → Bool) (J : Nat → Int) (R Z : List Int) (J0 : Nat → Int) : Prop where
  st : St P L J (fun i => (i : Int) ∈ R ∨ (i : Int) ∈ Z)
  fr : ∀ x, x ∈ R → FarAt P J x
  fz : ∀ x, x ∈ Z → FarAt P J x
  ct : cnt J P.n + Z.length = cnt J0 P.n
theorem St.weak {P : Sh} {L : Nat → Bool} {J : Nat → Int} {Q Q' : Nat → Prop} (h : St P L J Q) (hq : ∀ i, i < P.n → P.j i = true → Q i → Q' i) : St P L J Q' :=
  ⟨h.fits, h.none, fun i hi hj hf => ⟨(h.far i hi hj hf).1, (h.far i hi hj hf).2.imp id (hq i hi hj)⟩, h.long, h.must⟩
theorem bump_far {P : Sh} {L : Nat → Bool} {J : Nat → Int} {m i : Nat} (h : fitB (J i) = false) : bump P L J m i = J i := by unfold bump; rw [h]; simp
theorem FarAt.bump {P : Sh} {L : Nat → Bool} {J : Nat → Int} {m : Nat} {x : Int} (h : FarAt P J x) : FarAt P (bump P L J m) x := by
  obtain ⟨i, h1, h2, h3, h4⟩ := h
  exact ⟨i, h1, h2, h3, by rw [bump_far h4]; exact h4⟩
theorem Wl.step {P : Sh} (hP : P.Ok) {L : Nat → Bool} {J J0 : Nat → Int} {m : Nat} {R Z : List Int} (h : Wl P L J ((m : Int) :: R) Z J0) :
    Wl P (with1 L m) (Lk.bump P L J m) R (Z ++ nl J (Lk.bump P L J m) (m - 128) (min P.n (m + 129))) J0 := by
  obtain ⟨m', hm, e, hmj, hmf⟩ := h.fr m (by simp)
  obtain rfl : m = m' := by omega
  have hnear : ∀ i, i < P.n → fitB (J i) = true → fitB (Lk.bump P L J m i) = false → m - 128 ≤ i ∧ i < m + 129 := fun i hi h1 h2 => by
    by_cases hw : i + 128 < m ∨ m + 128 < i
    · rw [bump_near hP h.st hi hw, h1] at h2
      cases h2
    · omega
  have hin : ∀ i, i < P.n → fitB (J i) = true → fitB (Lk.bump P L J m i) = false → (i : Int) ∈ nl J (Lk.bump P L J m) (m - 128) (min P.n (m + 129)) := fun i hi h1 h2 => by
    have := hnear i hi h1 h2
    exact (nl_mem _ _ _).2 ⟨i, Nat.lt_min.2 ⟨hi, this.2⟩, this.1, rfl, h1, h2⟩
  refine ⟨(St.bump hP h.st hm hmj hmf).weak ?_, fun x hx => (h.fr x (by simp [hx])).bump, fun x hx => ?_, ?_⟩
  · intro i hi hj hq
    rcases hq with ⟨hq, hne⟩ | ⟨h1, h2⟩
    · rcases hq with hq | hq
      · simp at hq
        rcases hq with hq | hq
        · omega
        · exact .inl hq
      · exact .inr (by simp [hq])
    · exact .inr (by rw [List.mem_append]; exact .inr (hin i hi h1 h2))
  · rw [List.mem_append] at hx
    rcases hx with hx | hx
    · exact (h.fz x hx).bump
    · obtain ⟨i, h1, h2, h3, h4, h5⟩ := (nl_mem _ _ _).1 hx
      have hi : i < P.n := Nat.lt_of_lt_of_le h1 (Nat.min_le_left _ _)
      refine ⟨i, hi, h3, ?_, h5⟩
      cases hj : P.j i
      · have e0 := h.st.none i hi hj
        unfold Lk.bump at h5
        rw [hj] at h5
        simp [h4] at h5
      · rfl
  · have h1 := nl_cnt J (Lk.bump P L J m) (m - 128) (fun i hf => bump_far hf) P.n (min P.n (m + 129)) (Nat.min_le_left _ _)
    have h2 : cnt (mid J (Lk.bump P L J m) (m - 128) (min P.n (m + 129))) P.n = cnt (Lk.bump P L J m) P.n := cnt_congr (fun i hi => by
      unfold mid
      by_cases hw : m - 128 ≤ i ∧ i < min P.n (m + 129)
      · rw [if_pos hw]
      · rw [if_neg hw]
        have hw2 : i + 128 < m ∨ m + 128 < i := by
          by_cases h3 : i < m + 129
          · have := Nat.lt_min.2 ⟨hi, h3⟩
            omega
          · omega
        rw [bump_near hP h.st hi hw2])
    have := h.ct
    rw [List.length_append]
    omega
theorem Wl.done {P : Sh} {L : Nat → Bool} {J J0 : Nat → Int} (h : Wl P L J [] [] J0) : P.Least L := h.st.least (fun i _ _ hq => by simp at hq)
theorem Wl.turn {P : Sh} {L : Nat → Bool} {J J0 : Nat → Int} {Z : List Int} (h : Wl P L J [] Z J0) : Wl P L J Z [] J :=
  ⟨h.st.weak (fun i _ _ hq => by simp at hq; exact .inl hq), h.fz, fun x hx => by simp at hx, by simp⟩
theorem Wl.start {t p : Int} {P : PcV} (hP : P.Ok t p) : Wl (P.sh t) (fun _ => false) (immJ P t (P.sh t).s) (farL (immJ P t (P.sh t).s) (jl P P.n)) [] (immJ P t (P.sh t).s) := by
  have e : (P.sh t).size (fun _ => false) = (P.sh t).s := by funext i; unfold Sh.size; simp
  have e2 : ∀ i, (P.sh t).imm (fun _ => false) i = immS P t (P.sh t).s i := fun i => by unfold Sh.imm immS; rw [e]
  have e3 : (fun i => if (P.sh t).j i then (P.sh t).imm (fun _ => false) i else 0) = immJ P t (P.sh t).s := by
    funext i
    rw [e2]
    rfl
  have hs := St.start hP.sh
  rw [e3] at hs
  refine ⟨hs.weak (fun i hi hj hq => ?_), fun x hx => ?_, fun x hx => by simp at hx, by simp⟩
  · refine .inl ?_
    unfold farL
    rw [List.mem_filter]
    refine ⟨(jl_mem P).2 ⟨i, hi, rfl, hj⟩, ?_⟩
    have hj' : jmpB (P.I i).op = true := hj
    rw [e2] at hq
    simp [immJ, hj', hq]
  · unfold farL at hx
    rw [List.mem_filter] at hx
    obtain ⟨i, h1, h2, h3⟩ := (jl_mem P).1 hx.1
    refine ⟨i, h1, h2, h3, ?_⟩
    have := hx.2
    rw [h2] at this
    simpa using this
end Lk
end Go.Proofs.YtkiockffejlnhaaGreatDoor
