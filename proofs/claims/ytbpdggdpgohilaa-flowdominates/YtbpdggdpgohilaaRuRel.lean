/- A region that draws its order, whose operations each establish what is known of their own value, whatever came ahead; what the world may turn to in between is told by a relation of one's own. A store may be among them. -/
import Derived.Test.YtbpdggdpgohilaaG3
namespace Go.Proofs.Ytbpdggdpgohilaa
open Go.RowKit
set_option linter.unusedVariables false

section
variable {P : Program} {ops : Array Oper} {R : World → World → Prop}
/-- what an operation's step must show -/
def stepVR (P : Program) (ops : Array Oper) (R : World → World → Prop) (Ψ : Nat → Value → World → Prop) (i : Nat) (a : Act) (w : World) : Prop :=
  match ops[i]? with
  | none => False
  | some o => match (execOp a.eval o).run P w with
    | .ok (.value v) w' => (dstOf ops i).isSome = true ∧ R w w' ∧ Ψ i v w'
    | .ok .skip w' => R w w' ∧ Ψ i undef w'
    | .ok (.enter f args) w' => (dstOf ops i).isSome = true ∧ Calls P f args w' (fun e w'' => ∃ v, e = .returned v ∧ R w w'' ∧ Ψ i v w'')
    | _ => False
def dstR (ops : Array Oper) (n sz : Nat) : Bool :=
  (List.range n).all fun i => (match dstOf ops i with | some d => decide (d < sz) | none => true) && (List.range n).all fun j => i == j || dstOf ops i == none || !(dstOf ops i == dstOf ops j)
theorem dstR_lt {n sz i d : Nat} (h : dstR ops n sz = true) (hi : i < n) (hd : dstOf ops i = some d) : d < sz := by
  have h1 := List.all_eq_true.1 h i (List.mem_range.2 hi)
  simp only [hd, Bool.and_eq_true, decide_eq_true_eq] at h1
  exact h1.1
theorem dstR_ne {n sz i j d : Nat} (h : dstR ops n sz = true) (hi : i < n) (hj : j < n) (hij : i ≠ j) (hd : dstOf ops i = some d) : dstOf ops j ≠ some d := by
  have h1 := List.all_eq_true.1 h i (List.mem_range.2 hi)
  simp only [Bool.and_eq_true] at h1
  have h2 := List.all_eq_true.1 h1.2 j (List.mem_range.2 hj)
  simp only [hd, Bool.or_eq_true, beq_iff_eq, hij, false_or, Bool.not_eq_true', beq_eq_false_iff_ne] at h2
  rcases h2 with h2 | h2
  · simp at h2
  · exact fun e => h2 e.symm
set_option maxHeartbeats 2000000 in
theorem any_of_rel (htr : ∀ {w w1 w2 : World}, R w w1 → R w1 w2 → R w w2) {n : Nat} {a0 : Act} {W : World} {Q : Exit → Act → World → Prop} {Ψ : Nat → Value → World → Prop} {l : List Oper} (hl : ops = l.toArray)
    (hst : ∀ i v w w', i < n → Ψ i v w → R w w' → Ψ i v w')
    (hsel : Region.noSelect ops = true) (hn : n < ops.size) (hs : Region.sinkB .any ops n = true) (hc : Region.chainB .any ops n = true) (hlex : Region.lexHead .any ops (ops.size - n) n 0 (lexed ops.size 0) = true)
    (hL : lookB ops n = true) (hD : dstR ops n a0.tmps.size = true)
    (hstep : ∀ i, i < n → ∀ V w', R W w' → (∀ j, (depsOf ops i).contains j = true → Ψ j (V j) w') → stepVR P ops R Ψ i (frV ops a0 V i) w')
    (hend : ∀ V w', R W w' → (∀ i, i < n → Ψ i (V i) w') → wpList P ops Q (l.drop n) (frV ops a0 V n) w') (f : Nat) :
    ∀ listed a w, left listed n = f → HeadInv .any ops n listed → FrInv ops n a0 Ψ listed a w → R W w → wpAny P .any ops Q (f + (ops.size - n)) listed a w := by
  have hval : ∀ {listed a w i}, FrInv ops n a0 Ψ listed a w → i < n → listed.getD i false = true → Ψ i (valOf ops a i) w := by
    intro listed a w i inv hi hli
    unfold valOf
    cases hd : dstOf ops i with
    | none => exact inv.non i hi hli hd
    | some d => exact inv.val i d hi hli hd
  induction f with
  | zero =>
    intro listed a w hf hinv inv hg
    have hall := left_zero hf
    have ea : a = frV ops a0 (valOf ops a) n := by
      obtain ⟨tm, df⟩ := a
      have h1 : tm = (frV ops a0 (valOf ops ⟨tm, df⟩) n).tmps := by
        apply Array.ext_getElem?
        intro s
        by_cases hex : ∃ j, j < n ∧ dstOf ops j = some s
        · obtain ⟨j, hj, hd⟩ := hex
          exact (frV_in a0 ⟨tm, df⟩ inv.size n s ⟨j, hj, hd⟩ (dstR_lt hD hj hd)).symm
        · have hno : ∀ j, j < n → dstOf ops j ≠ some s := fun j hj hd => hex ⟨j, hj, hd⟩
          rw [frV_out a0 _ n s hno]
          exact inv.old s fun i hi _ => hno i hi
      have h2 : df = (frV ops a0 (valOf ops ⟨tm, df⟩) n).defers := by rw [frV_defers]; exact inv.defers
      generalize frV ops a0 (valOf ops ⟨tm, df⟩) n = b at *
      obtain ⟨bt, bd⟩ := b
      simp_all
    have el : listed = lexed ops.size n := by
      apply Array.ext
      · rw [lexed_size]; exact hinv.size
      · intro i h1 h2
        have e1 := lexed_get ops.size n i (by rw [← hinv.size]; exact h1)
        by_cases hin : i < n
        · have e2 := hall i hin
          have : (lexed ops.size n).getD i false = true := by rw [e1]; simp [hin]
          simp [h1, h2] at e2 this
          rw [e2, this]
        · have e2 := getD_both (hinv.tail i (by omega) (by rw [← hinv.size]; exact h1))
          have : (lexed ops.size n).getD i false = false := by rw [e1]; simp [hin]
          simp [h1, h2] at e2 this
          rw [e2, this]
    have hw := hend (valOf ops a) w hg fun i hi => hval inv hi (hall i hi)
    rw [← ea] at hw
    have hse := lexHead_end ops.size n 0 (by simpa using hlex)
    rw [Nat.zero_add] at hse
    have hdl : (l.drop n).length = ops.size - n := by rw [hl]; simp
    have T := wpAny_of_seq (md := .any) (P := P) (ops := ops) (Q' := Q) (l.drop n) n listed a w (fun j => by rw [hl]; simp [List.getElem?_drop]) (by rw [hdl, el]; exact hse) hw
    rw [hdl] at T
    rw [Nat.zero_add]
    exact T
  | succ f ih =>
    intro listed a w hf hinv inv hg
    obtain ⟨k, hk, hkf, hkall⟩ := left_pos (by rw [hf]; exact Nat.succ_ne_zero f)
    have hkt : listed.getD k true = false := getD_in (by rw [hinv.size]; omega) hkf
    have hkr : k ∈ Region.ready .any ops listed := by
      have h0 := lexHead_at ops.size n 0 (by simpa using hlex) k (Nat.zero_le _) (by omega)
      obtain ⟨_, o, ho, hall⟩ := mem_ready.1 h0
      refine mem_ready.2 ⟨hkt, o, ho, fun e he hb => ?_⟩
      have h1 := hall e he hb
      have h2 : e.on < ops.size := by
        rcases Nat.lt_or_ge e.on (lexed ops.size k).size with h' | h'
        · rw [lexed_size] at h'; exact h'
        · simp [Array.getElem?_eq_none h'] at h1
      rw [lexed_get ops.size k e.on h2] at h1
      exact hkall e.on (by simpa using h1)
    rw [Nat.add_right_comm]
    refine ⟨fun h0 => absurd h0 (List.ne_nil_of_mem hkr), fun i hi => ?_⟩
    have hin : i < n := Nat.lt_of_not_le fun h => tail_waits hs hc hn hinv _ k rfl hk hkt i h hi
    obtain ⟨hiun, o, ho, hall⟩ := mem_ready.1 hi
    obtain ⟨hgd, hlk⟩ := lookB_spec hL hin ho
    have hd : dstOf ops i = o.dst := by unfold dstOf; rw [ho]; rfl
    have S := hstep i hin (valOf ops a) w hg fun j hj => by
      have hj' := List.mem_filter.1 (show j ∈ depsOf ops i by simpa using hj)
      have hlt := List.mem_range.1 hj'.1
      exact hval inv (by omega) (waits_listed hi hj'.2)
    unfold stepVR at S
    simp only [ho] at S
    have hex : execOp a.eval o = execOp (frV ops a0 (valOf ops a) i).eval o := by
      refine execOp_congr o (fun cs b => Region.noSelect_spec hsel i o cs b ho) fun x hx => eval_same fun t ht => ?_
      subst ht
      have htl : t ∈ o.looksAt ops := List.mem_append_left _ (List.mem_filterMap.2 ⟨.tmp t, by simpa using hx, rfl⟩)
      by_cases hexi : ∃ j, j < n ∧ dstOf ops j = some t
      · obtain ⟨j, hj, hdj⟩ := hexi
        obtain ⟨hji, _⟩ := hlk t htl j hj hdj
        exact (frV_in a0 a inv.size i t ⟨j, hji, hdj⟩ (dstR_lt hD hj hdj)).symm
      · have hno : ∀ j, j < n → dstOf ops j ≠ some t := fun j hj hd => hexi ⟨j, hj, hd⟩
        rw [frV_out a0 _ i t fun j hj => hno j (by omega)]
        exact inv.old t fun j hj _ => hno j hj
    have next : ∀ v w', (dstOf ops i = none → v = undef) → R w w' → Ψ i v w' → wpAny P .any ops Q (f + (ops.size - n)) (listed.setIfInBounds i true) (a.put o.dst v) w' := by
      intro v w' hun hg' hv
      have hlf : left (listed.setIfInBounds i true) n = f := by have := left_set hin hiun; omega
      refine ih _ _ _ hlf (hinv.set hi hin) ?_ (htr hg hg')
      have hset : ∀ j, j ≠ i → (listed.setIfInBounds i true).getD j false = true → listed.getD j false = true := fun j hj h => by rwa [getD_set_ne false (Ne.symm hj)] at h
      refine ⟨(put_size _ _ _).trans inv.size, (put_defers _ _ _).trans inv.defers, fun s hs' => ?_, fun j d hj hjl hjd => ?_, fun j hj hjl hjd => ?_⟩
      · have h1 : dstOf ops i ≠ some s := hs' i hin (by
          have : i < listed.size := by rw [hinv.size]; omega
          simp [this])
        rw [put_other _ _ (by rw [← hd]; exact h1)]
        exact inv.old s fun j hj hjl => hs' j hj (getD_set_true hjl)
      · by_cases hji : j = i
        · subst hji
          have e : o.dst = some d := by rw [← hd]; exact hjd
          rw [e]
          have hlt : d < a.tmps.size := by rw [inv.size]; exact dstR_lt hD hin hjd
          have := put_same a d v hlt
          rw [Array.getD_eq_getD_getElem?, this]
          exact hv
        · have hne : o.dst ≠ some d := by rw [← hd]; exact dstR_ne hD hj hin hji hjd
          have := put_other a v hne
          rw [Array.getD_eq_getD_getElem?, this, ← Array.getD_eq_getD_getElem?]
          exact hst _ _ _ _ hj (inv.val j d hj (hset j hji hjl) hjd) hg'
      · by_cases hji : j = i
        · subst hji
          rw [← hun hjd]; exact hv
        · exact hst _ _ _ _ hj (inv.non j hj (hset j hji hjl) hjd) hg'
    unfold wpOp
    simp only [ho]
    have hwa : Region.wanted o (yielded ops a.tmps) = true := by unfold Region.wanted; rw [hgd]
    rw [if_pos hwa]
    refine .inl ?_
    unfold Oper.wp
    rw [hex]
    generalize (execOp (frV ops a0 (valOf ops a) i).eval o).run P w = r at S
    match r, S with
    | .ok (.value v) w', S => exact next v w' (fun e => by rw [e] at S; cases S.1) S.2.1 S.2.2
    | .ok .skip w', S => exact next undef w' (fun _ => rfl) S.1 S.2
    | .ok (.enter fn args) w', S =>
      rw [Oper.upon_enter]
      obtain ⟨hS, S⟩ := S
      refine Calls.mono S ?_
      rintro e w'' ⟨v, rfl, h1, h2⟩
      exact next v w'' (fun e => by rw [e] at hS; cases hS) h1 h2
/-- **A region of which each operation of the head says what is known of its own value, whatever came ahead of it.** -/
theorem region_invR (htr : ∀ {w w1 w2 : World}, R w w1 → R w1 w2 → R w w2) (hrf : ∀ w : World, R w w) {id : Nat} {Q : Exit → Act → World → Prop} {a : Act} {w : World} {l : List Oper} (n : Nat) (Ψ : Nat → Value → World → Prop)
    (hm : P.follows .mixedOrders = true) (hB : Region.lexTailB .any l.toArray n = true) (hL : lookB l.toArray n = true) (hD : dstR l.toArray n a.tmps.size = true)
    (hst : ∀ i v w w', i < n → Ψ i v w → R w w' → Ψ i v w')
    (hstep : ∀ i, i < n → ∀ V w', R w.drew w' → (∀ j, (depsOf l.toArray i).contains j = true → Ψ j (V j) w') → stepVR P l.toArray R Ψ i (frV l.toArray a V i) w')
    (hend : ∀ V w', R w.drew w' → (∀ i, i < n → Ψ i (V i) w') → wpList P l.toArray Q (l.drop n) (frV l.toArray a V n) w') : (Code.region id l.toArray true).wp P Q a w := by
  simp only [Region.lexTailB, Bool.and_eq_true, decide_eq_true_eq] at hB
  obtain ⟨⟨⟨⟨hsel, hn⟩, hs⟩, hc⟩, hlex⟩ := hB
  have inv0 : HeadInv .any l.toArray n (Array.replicate l.toArray.size false) :=
    ⟨by simp, fun j oj _ hl => (by rw [getD_replicate_false] at hl; cases hl), fun t _ ht => getD_in (by simpa using ht) (getD_replicate_false _ _)⟩
  have hl0 : left (Array.replicate l.toArray.size false) n = n := by
    unfold left
    rw [List.filter_eq_self.2 fun i _ => by rw [getD_replicate_false]; rfl]
    simp
  have fr0 : FrInv l.toArray n a Ψ (Array.replicate l.toArray.size false) a w.drew :=
    ⟨rfl, rfl, fun _ _ => rfl, fun i d _ h => (by rw [getD_replicate_false] at h; cases h), fun i _ h => (by rw [getD_replicate_false] at h; cases h)⟩
  have T := any_of_rel (R := R) htr (P := P) (Q := Q) (ops := l.toArray) (n := n) (a0 := a) (W := w.drew) (Ψ := Ψ) rfl hst hsel hn hs hc (by simpa [lexed] using hlex) hL hD hstep hend n _ a w.drew hl0 inv0 fr0 (hrf _)
  rw [show n + (l.toArray.size - n) = l.toArray.size by omega] at T
  exact wp_region_any hm T
/-- what an operation's run must show -/
def outR (P : Program) (ops : Array Oper) (R : World → World → Prop) (Ψ : Nat → Value → World → Prop) (i : Nat) (w : World) : Result Next → Prop
  | .ok (.value v) w' => (dstOf ops i).isSome = true ∧ R w w' ∧ Ψ i v w'
  | .ok .skip w' => R w w' ∧ Ψ i undef w'
  | .ok (.enter f args) w' => (dstOf ops i).isSome = true ∧ Calls P f args w' (fun e w'' => ∃ v, e = .returned v ∧ R w w'' ∧ Ψ i v w'')
  | _ => False
theorem outR_val {Ψ : Nat → Value → World → Prop} {i : Nat} {w w' : World} {v : Value} {r : Result Next} (hd : (dstOf ops i).isSome = true) (hr : r = .ok (.value v) w') (hg : R w w') (hv : Ψ i v w') : outR P ops R Ψ i w r := by
  rw [hr]; exact ⟨hd, hg, hv⟩
theorem outR_skip {Ψ : Nat → Value → World → Prop} {i : Nat} {w w' : World} {r : Result Next} (hr : r = .ok .skip w') (hg : R w w') (hv : Ψ i undef w') : outR P ops R Ψ i w r := by
  rw [hr]; exact ⟨hg, hv⟩
theorem outR_call {Ψ : Nat → Value → World → Prop} {i : Nat} {w : World} {f : FuncId} {args : Array Value} {r : Result Next} (hd : (dstOf ops i).isSome = true) (hr : r = .ok (.enter f args) w) (hc : Calls P f args w fun e w'' => ∃ v, e = .returned v ∧ R w w'' ∧ Ψ i v w'') : outR P ops R Ψ i w r := by
  rw [hr]; exact ⟨hd, hc⟩
/-- an operation, wherever it comes up: what it reads is what the ones ahead of it have left, or what stood there -/
def stepR (P : Program) (ops : Array Oper) (R : World → World → Prop) (a : Act) (w : World) (Ψ : Nat → Value → World → Prop) (i : Nat) (o : Oper) : Prop :=
  ∀ (V : Nat → Value) (w' : World) (A : Act), R w.drew w' → (∀ j, (depsOf ops i).contains j = true → Ψ j (V j) w') → (∀ t j, srcOf ops t i = some j → decide (t < a.tmps.size) = true → A.tmps[t]? = some (V j)) →
    (∀ t v, srcOf ops t i = none → a.tmps[t]? = some v → A.tmps[t]? = some v) → outR P ops R Ψ i w' ((execOp A.eval o).run P w')
def stepsR (P : Program) (ops : Array Oper) (R : World → World → Prop) (a : Act) (w : World) (Ψ : Nat → Value → World → Prop) : Nat → List Oper → Prop
  | _, [] => True
  | i, o :: rest => stepR P ops R a w Ψ i o ∧ stepsR P ops R a w Ψ (i + 1) rest
theorem stepsR_get {ops : Array Oper} {a : Act} {w : World} {Ψ : Nat → Value → World → Prop} : ∀ {l : List Oper} {k i : Nat} {o : Oper}, stepsR P ops R a w Ψ k l → l[i]? = some o → stepR P ops R a w Ψ (k + i) o
  | [], _, _, _, _, h => by simp at h
  | x :: l, k, 0, o, hs, h => by
    obtain rfl : x = o := by simpa using h
    exact hs.1
  | x :: l, k, i + 1, o, hs, h => by
    have := stepsR_get (i := i) hs.2 (by simpa using h)
    rwa [show k + 1 + i = k + (i + 1) by omega] at this
/-- region_inv, operation by operation -/
theorem region_rel (R : World → World → Prop) (htr : ∀ {w w1 w2 : World}, R w w1 → R w1 w2 → R w w2) (hrf : ∀ w : World, R w w) {id : Nat} {Q : Exit → Act → World → Prop} {a : Act} {w : World} {l : List Oper} (n : Nat) (Ψ : Nat → Value → World → Prop)
    (hm : P.follows .mixedOrders = true) (hB : Region.lexTailB .any l.toArray n = true) (hL : lookB l.toArray n = true) (hD : dstR l.toArray n a.tmps.size = true)
    (hst : ∀ i v w w', i < n → Ψ i v w → R w w' → Ψ i v w')
    (hstep : stepsR P l.toArray R a w Ψ 0 (l.take n))
    (hend : ∀ V w', R w.drew w' → (∀ i, i < n → Ψ i (V i) w') → wpList P l.toArray Q (l.drop n) (frV l.toArray a V n) w') : (Code.region id l.toArray true).wp P Q a w := by
  have hn : n < l.length := by
    simp only [Region.lexTailB, Bool.and_eq_true, decide_eq_true_eq] at hB
    simpa using hB.1.1.1.2
  refine region_invR (R := R) (fun h1 h2 => htr h1 h2) (fun w => hrf w) n Ψ hm hB hL hD hst (fun i hi V w' g hV => ?_) hend
  have ho : (l.take n)[i]? = some l[i] := by rw [List.getElem?_take, if_pos hi, List.getElem?_eq_getElem (by omega)]
  have h1 := stepsR_get hstep ho
  rw [Nat.zero_add] at h1
  have h2 := h1 V w' (frV l.toArray a V i) g hV (fun t j hs ht => frV_at (of_decide_eq_true ht) hs) (fun t v hs hv => (frV_at0 hs).trans hv)
  unfold stepVR
  have ho' : l.toArray[i]? = some l[i] := by rw [List.getElem?_toArray, List.getElem?_eq_getElem (by omega)]
  rw [ho']
  exact h2
end
end Go.Proofs.Ytbpdggdpgohilaa
