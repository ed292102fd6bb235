/- A region that draws its order, with a store at its end ahead of which one pure operation may not have come up yet. -/
import Derived.Test.YtdfjaedafampaaaG8
namespace Go.Proofs.Ytdfjaedafampaaa
open Go.RowKit
set_option linter.unusedVariables false

section
variable {P : Program} {ops : Array Oper}
/-- all listed but p, and what comes behind n -/
def lateA (m n p : Nat) : Array Bool := (Array.range m).map fun j => decide (j ≤ n) && !(j == p)
theorem lateA_size (m n p : Nat) : (lateA m n p).size = m := by simp [lateA]
theorem lateA_get (m n p j : Nat) (h : j < m) : (lateA m n p).getD j false = (decide (j ≤ n) && !(j == p)) := by simp [lateA, h]
theorem any_of_late {n p : Nat} {on op1 op2 : Oper} {a0 : Act} {W : World} {Q : Exit → Act → World → Prop} {Ψ : Nat → Value → World → Prop} {l : List Oper} (hl : ops = l.toArray)
    (hst : ∀ i v w w', i < n → Ψ i v w → w.grownBy w' none → Ψ i v w')
    (hsel : Region.noSelect ops = true) (hsz : ops.size = n + 2) (hp : p < n) (hB1 : ∀ j, j < n → j ≠ p → Region.waitsFor .any ops n j = true) (hB2 : Region.waitsFor .any ops (n + 1) n = true) (hon : ops[n]? = some on) (hop : ops[p]? = some op1) (ho2 : ops[n + 1]? = some op2)
    (r1 : Region.ready .any ops (lateA ops.size n p) = [p]) (r2 : Region.ready .any ops ((lateA ops.size n p).setIfInBounds p true) = [n + 1]) (r3 : Region.ready .any ops (((lateA ops.size n p).setIfInBounds p true).setIfInBounds (n + 1) true) = []) (hlex : Region.lexHead .any ops (ops.size - n) n 0 (lexed ops.size 0) = true)
    (hL : lookB ops n = true) (hD : dstB ops n a0.tmps.size = true)
    (hstep : ∀ i, i < n → ∀ V w', W.grownBy w' none → (∀ j, (depsOf ops i).contains j = true → Ψ j (V j) w') → stepV P ops Ψ i (frV ops a0 V i) w')
    (hend : ∀ V w', W.grownBy w' none → (∀ i, i < n → Ψ i (V i) w') → wpList P ops Q (l.drop n) (frV ops a0 V n) w')
    (hlate : ∀ V w', W.grownBy w' none → (∀ i, i < n → i ≠ p → Ψ i (V i) w') → (∀ d, dstOf ops p = some d → V p = a0.tmps.getD d undef) → wpList P ops Q [on, op1, op2] (frV ops a0 V n) w') (f : Nat) :
    ∀ listed a w, left listed n = f → HeadInv .any ops n listed → FrInv ops n a0 Ψ listed a w → W.grownBy w none → wpAny P .any ops Q (f + (ops.size - n)) listed a w := by
  have hval : ∀ {listed a w i}, FrInv ops n a0 Ψ listed a w → i < n → listed.getD i false = true → Ψ i (valOf ops a i) w := by
    intro listed a w i inv hi hli
    unfold valOf
    cases hd : dstOf ops i with
    | none => exact inv.non i hi hli hd
    | some d => exact inv.val i d hi hli hd
  have hfr : ∀ {listed a w}, FrInv ops n a0 Ψ listed a w → a = frV ops a0 (valOf ops a) n := by
    intro listed a w inv
    obtain ⟨tm, df⟩ := a
    have h1 : tm = (frV ops a0 (valOf ops ⟨tm, df⟩) n).tmps := by
      apply Array.ext_getElem?
      intro s
      by_cases hex : ∃ j, j < n ∧ dstOf ops j = some s
      · obtain ⟨j, hj, hd⟩ := hex
        exact (frV_in a0 ⟨tm, df⟩ inv.size n s ⟨j, hj, hd⟩ (dstB_lt hD hj hd)).symm
      · have hno : ∀ j, j < n → dstOf ops j ≠ some s := fun j hj hd => hex ⟨j, hj, hd⟩
        rw [frV_out a0 _ n s hno]
        exact inv.old s fun i hi _ => hno i hi
    have h2 : df = (frV ops a0 (valOf ops ⟨tm, df⟩) n).defers := by rw [frV_defers]; exact inv.defers
    generalize frV ops a0 (valOf ops ⟨tm, df⟩) n = b at *
    obtain ⟨bt, bd⟩ := b
    simp_all
  have hn : n < ops.size := by omega
  induction f with
  | zero =>
    intro listed a w hf hinv inv hg
    have hall := left_zero hf
    have ea : a = frV ops a0 (valOf ops a) n := hfr inv
    have el : listed = lexed ops.size n := by
      apply Array.ext
      · rw [lexed_size]; exact hinv.size
      · intro i h1 h2
        have e1 := lexed_get ops.size n i (by rw [← hinv.size]; exact h1)
        by_cases hin : i < n
        · have e2 := hall i hin
          have : (lexed ops.size n).getD i false = true := by rw [e1]; simp [hin]
          simp [h1, h2] at e2 this
          rw [e2, this]
        · have e2 := getD_both (hinv.tail i (by omega) (by rw [← hinv.size]; exact h1))
          have : (lexed ops.size n).getD i false = false := by rw [e1]; simp [hin]
          simp [h1, h2] at e2 this
          rw [e2, this]
    have hw := hend (valOf ops a) w hg fun i hi => hval inv hi (hall i hi)
    rw [← ea] at hw
    have hse := lexHead_end ops.size n 0 (by simpa using hlex)
    rw [Nat.zero_add] at hse
    have hdl : (l.drop n).length = ops.size - n := by rw [hl]; simp
    have T := wpAny_of_seq (md := .any) (P := P) (ops := ops) (Q' := Q) (l.drop n) n listed a w (fun j => by rw [hl]; simp [List.getElem?_drop]) (by rw [hdl, el]; exact hse) hw
    rw [hdl] at T
    rw [Nat.zero_add]
    exact T
  | succ f ih =>
    intro listed a w hf hinv inv hg
    obtain ⟨k, hk, hkf, hkall⟩ := left_pos (by rw [hf]; exact Nat.succ_ne_zero f)
    have hkt : listed.getD k true = false := getD_in (by rw [hinv.size]; omega) hkf
    have hkr : k ∈ Region.ready .any ops listed := by
      have h0 := lexHead_at ops.size n 0 (by simpa using hlex) k (Nat.zero_le _) (by omega)
      obtain ⟨_, o, ho, hall⟩ := mem_ready.1 h0
      refine mem_ready.2 ⟨hkt, o, ho, fun e he hb => ?_⟩
      have h1 := hall e he hb
      have h2 : e.on < ops.size := by
        rcases Nat.lt_or_ge e.on (lexed ops.size k).size with h' | h'
        · rw [lexed_size] at h'; exact h'
        · simp [Array.getElem?_eq_none h'] at h1
      rw [lexed_get ops.size k e.on h2] at h1
      exact hkall e.on (by simpa using h1)
    rw [Nat.add_right_comm]
    refine ⟨fun h0 => absurd h0 (List.ne_nil_of_mem hkr), fun i hi => ?_⟩
    by_cases hin : i < n
    case neg =>
      have hilt : i < n + 2 := by
        obtain ⟨_, o, ho, _⟩ := mem_ready.1 hi
        have := (Array.getElem?_eq_some_iff.1 ho).1
        omega
      have hnf : listed.getD n false = false := getD_both (hinv.tail n (Nat.le_refl _) hn)
      have hi1 : i ≠ n + 1 := fun e => by
        subst e
        have := waits_listed hi hB2
        rw [hnf] at this
        cases this
      obtain rfl : i = n := by omega
      have hoth : ∀ j, j < i → j ≠ p → listed.getD j false = true := fun j hj hjp => waits_listed hi (hB1 j hj hjp)
      obtain rfl : k = p := Decidable.byContradiction fun h => by rw [hoth k hk h] at hkf; cases hkf
      have hf0 : f = 0 := by
        have h1 := left_set hk hkt
        have h2 : left (listed.setIfInBounds k true) i = 0 := by
          unfold left
          rw [List.filter_eq_nil_iff.2 fun j hj => ?_]
          · rfl
          · have hj' := List.mem_range.1 hj
            by_cases hjk : j = k
            · subst hjk
              have : j < listed.size := by rw [hinv.size]; omega
              simp [this]
            · have : (listed.setIfInBounds k true).getD j false = true := getD_set_true (hoth j hj' hjk)
              rw [this]; decide
        omega
      subst hf0
      have el : listed.setIfInBounds i true = lateA ops.size i k := by
        apply Array.ext
        · rw [lateA_size, Array.size_setIfInBounds]; exact hinv.size
        · intro j h1 h2
          have e1 := lateA_get ops.size i k j (by rw [lateA_size] at h2; exact h2)
          have hjs : j < ops.size := by rw [lateA_size] at h2; exact h2
          have hls : listed.size = ops.size := hinv.size
          have key : (listed.setIfInBounds i true).getD j false = (lateA ops.size i k).getD j false := by
            rw [e1]
            by_cases hji : j = i
            · subst hji
              have : j < listed.size := by omega
              simp [this]
              omega
            · rw [getD_set_ne false (Ne.symm hji)]
              by_cases hjk : j = k
              · subst hjk
                rw [hkf]
                simp
              · by_cases hjn : j < i
                · rw [hoth j hjn hjk]
                  simp [hjk]
                  omega
                · rw [getD_both (hinv.tail j (by omega) hjs)]
                  simp
                  omega
          rw [Array.getD_eq_getD_getElem?, Array.getElem?_eq_getElem h1, Array.getD_eq_getD_getElem?, Array.getElem?_eq_getElem h2] at key
          exact key
      have ea : a = frV ops a0 (valOf ops a) i := hfr inv
      have hw := hlate (valOf ops a) w hg (fun j hj hjp => hval inv hj (hoth j hj hjp)) (fun d hd => by
        unfold valOf
        rw [hd]
        have := inv.old d (fun j hj hjl => by
          by_cases hjk : j = k
          · subst hjk; rw [hkf] at hjl; cases hjl
          · exact dstB_ne hD hk hj (fun e => hjk e.symm) hd)
        show a.tmps.getD d undef = _
        rw [Array.getD_eq_getD_getElem?, this, ← Array.getD_eq_getD_getElem?])
      rw [← ea] at hw
      have h1 : wpOp P ops Q i (wpList P ops Q [op1, op2]) a w := by unfold wpOp; simp only [hon]; exact hw
      have hs2 : 0 + (ops.size - i) = 0 + 1 + 1 := by omega
      rw [hs2]
      refine wpOp_mono (fun a1 w1 h2 => ?_) h1
      rw [el]
      refine ⟨fun h0 => (by rw [r1] at h0; cases h0), fun j hj => ?_⟩
      rw [r1] at hj
      obtain rfl : j = k := by simpa using hj
      have h3 : wpOp P ops Q j (wpList P ops Q [op2]) a1 w1 := by unfold wpOp; simp only [hop]; exact h2
      refine wpOp_mono (fun a2 w2 h4 => ?_) h3
      refine ⟨fun h0 => (by rw [r2] at h0; cases h0), fun j' hj' => ?_⟩
      rw [r2] at hj'
      obtain rfl : j' = i + 1 := by simpa using hj'
      have h5 : wpOp P ops Q (i + 1) (wpList P ops Q []) a2 w2 := by unfold wpOp; simp only [ho2]; exact h4
      exact wpOp_mono (fun a3 w3 h6 => ⟨r3, h6⟩) h5
    obtain ⟨hiun, o, ho, hall⟩ := mem_ready.1 hi
    obtain ⟨hgd, hlk⟩ := lookB_spec hL hin ho
    have hd : dstOf ops i = o.dst := by unfold dstOf; rw [ho]; rfl
    have S := hstep i hin (valOf ops a) w hg fun j hj => by
      have hj' := List.mem_filter.1 (show j ∈ depsOf ops i by simpa using hj)
      have hlt := List.mem_range.1 hj'.1
      exact hval inv (by omega) (waits_listed hi hj'.2)
    unfold stepV at S
    simp only [ho] at S
    have hex : execOp a.eval o = execOp (frV ops a0 (valOf ops a) i).eval o := by
      refine execOp_congr o (fun cs b => Region.noSelect_spec hsel i o cs b ho) fun x hx => eval_same fun t ht => ?_
      subst ht
      have htl : t ∈ o.looksAt ops := List.mem_append_left _ (List.mem_filterMap.2 ⟨.tmp t, by simpa using hx, rfl⟩)
      by_cases hexi : ∃ j, j < n ∧ dstOf ops j = some t
      · obtain ⟨j, hj, hdj⟩ := hexi
        obtain ⟨hji, _⟩ := hlk t htl j hj hdj
        exact (frV_in a0 a inv.size i t ⟨j, hji, hdj⟩ (dstB_lt hD hj hdj)).symm
      · have hno : ∀ j, j < n → dstOf ops j ≠ some t := fun j hj hd => hexi ⟨j, hj, hd⟩
        rw [frV_out a0 _ i t fun j hj => hno j (by omega)]
        exact inv.old t fun j hj _ => hno j hj
    have next : ∀ v w', w.grownBy w' none → Ψ i v w' → wpAny P .any ops Q (f + (ops.size - n)) (listed.setIfInBounds i true) (a.put o.dst v) w' := by
      intro v w' hg' hv
      have hlf : left (listed.setIfInBounds i true) n = f := by have := left_set hin hiun; omega
      refine ih _ _ _ hlf (hinv.set hi hin) ?_ (grown_trans hg hg')
      have hset : ∀ j, j ≠ i → (listed.setIfInBounds i true).getD j false = true → listed.getD j false = true := fun j hj h => by rwa [getD_set_ne false (Ne.symm hj)] at h
      refine ⟨(put_size _ _ _).trans inv.size, (put_defers _ _ _).trans inv.defers, fun s hs' => ?_, fun j d hj hjl hjd => ?_, fun j hj hjl hjd => ?_⟩
      · have h1 : dstOf ops i ≠ some s := hs' i hin (by
          have : i < listed.size := by rw [hinv.size]; omega
          simp [this])
        rw [put_other _ _ (by rw [← hd]; exact h1)]
        exact inv.old s fun j hj hjl => hs' j hj (getD_set_true hjl)
      · by_cases hji : j = i
        · subst hji
          have e : o.dst = some d := by rw [← hd]; exact hjd
          rw [e]
          have hlt : d < a.tmps.size := by rw [inv.size]; exact dstB_lt hD hin hjd
          have := put_same a d v hlt
          rw [Array.getD_eq_getD_getElem?, this]
          exact hv
        · have hne : o.dst ≠ some d := by rw [← hd]; exact dstB_ne hD hj hin hji hjd
          have := put_other a v hne
          rw [Array.getD_eq_getD_getElem?, this, ← Array.getD_eq_getD_getElem?]
          exact hst _ _ _ _ hj (inv.val j d hj (hset j hji hjl) hjd) hg'
      · by_cases hji : j = i
        · subst hji
          exact absurd hjd (dstB_some hD hin)
        · exact hst _ _ _ _ hj (inv.non j hj (hset j hji hjl) hjd) hg'
    unfold wpOp
    simp only [ho]
    have hwa : Region.wanted o (yielded ops a.tmps) = true := by unfold Region.wanted; rw [hgd]
    rw [if_pos hwa]
    refine .inl ?_
    unfold Oper.wp
    rw [hex]
    generalize (execOp (frV ops a0 (valOf ops a) i).eval o).run P w = r at S
    match r, S with
    | .ok (.value v) w', S => exact next v w' S.1 S.2
    | .ok .skip w', S => exact next undef w' S.1 S.2
    | .ok (.enter fn args) w', S =>
      rw [Oper.upon_enter]
      refine Calls.mono S ?_
      rintro e w'' ⟨v, rfl, h1, h2⟩
      exact next v w'' h1 h2

/-- the same as a check -/
def lateB (ops : Array Oper) (n p : Nat) : Bool :=
  Region.noSelect ops && decide (ops.size = n + 2) && decide (p < n) && ((List.range n).all fun j => j == p || Region.waitsFor .any ops n j) && Region.waitsFor .any ops (n + 1) n &&
    (Region.ready .any ops (lateA ops.size n p) == [p]) && (Region.ready .any ops ((lateA ops.size n p).setIfInBounds p true) == [n + 1]) && (Region.ready .any ops (((lateA ops.size n p).setIfInBounds p true).setIfInBounds (n + 1) true) == []) &&
    Region.lexHead .any ops (ops.size - n) n 0 (Array.replicate ops.size false)
/-- region_src, where the operation p of the head may come behind the first of the tail's two -/
theorem region_late {id : Nat} {Q : Exit → Act → World → Prop} {a : Act} {w : World} {l : List Oper} (n p : Nat) (on op1 op2 : Oper) (Ψ : Nat → Value → World → Prop)
    (hm : P.follows .mixedOrders = true) (hB : lateB l.toArray n p = true) (hon : l[n]? = some on) (hop : l[p]? = some op1) (ho2 : l[n + 1]? = some op2) (hL : lookB l.toArray n = true) (hD : dstB l.toArray n a.tmps.size = true)
    (hst : ∀ i v w w', i < n → Ψ i v w → w.grownBy w' none → Ψ i v w')
    (hstep : stepsO P l.toArray a w Ψ 0 (l.take n))
    (hend : ∀ V w', w.drew.grownBy w' none → (∀ i, i < n → Ψ i (V i) w') → wpList P l.toArray Q [on, op2] (frV l.toArray a V n) w')
    (hlate : ∀ V w', w.drew.grownBy w' none → (∀ i, i < n → i ≠ p → Ψ i (V i) w') → (∀ d, dstOf l.toArray p = some d → V p = a.tmps.getD d undef) → wpList P l.toArray Q [on, op1, op2] (frV l.toArray a V n) w') : (Code.region id l.toArray true).wp P Q a w := by
  unfold lateB at hB
  simp only [Bool.and_eq_true, decide_eq_true_eq, beq_iff_eq, List.all_eq_true, List.mem_range, Bool.or_eq_true] at hB
  obtain ⟨⟨⟨⟨⟨⟨⟨⟨hsel, hsz⟩, hp⟩, hB1⟩, hB2⟩, r1⟩, r2⟩, r3⟩, hlex⟩ := hB
  have hsl : l.length = n + 2 := by simpa using hsz
  have hstep' : ∀ i, i < n → ∀ V w', w.drew.grownBy w' none → (∀ j, (depsOf l.toArray i).contains j = true → Ψ j (V j) w') → stepV P l.toArray Ψ i (frV l.toArray a V i) w' := fun i hi V w' g hV => by
    have ho : (l.take n)[i]? = some l[i] := by rw [List.getElem?_take, if_pos hi, List.getElem?_eq_getElem (by omega)]
    have h1 := stepsO_get hstep ho
    rw [Nat.zero_add] at h1
    have h2 := h1 V w' (frV l.toArray a V i) g hV (fun t j hs ht => frV_at (of_decide_eq_true ht) hs) (fun t v hs hv => (frV_at0 hs).trans hv)
    unfold stepV
    have ho' : l.toArray[i]? = some l[i] := by rw [List.getElem?_toArray, List.getElem?_eq_getElem (by omega)]
    rw [ho']
    exact h2
  have hdrop : l.drop n = [on, op2] := by
    apply List.ext_getElem?
    intro j
    rw [List.getElem?_drop]
    match j with
    | 0 => simpa using hon
    | 1 => simpa using ho2
    | j + 2 =>
      rw [List.getElem?_eq_none (by omega)]
      rfl
  have inv0 : HeadInv .any l.toArray n (Array.replicate l.toArray.size false) :=
    ⟨by simp, fun j oj _ hl => (by rw [getD_replicate_false] at hl; cases hl), fun t _ ht => getD_in (by simpa using ht) (getD_replicate_false _ _)⟩
  have hl0 : left (Array.replicate l.toArray.size false) n = n := by
    unfold left
    rw [List.filter_eq_self.2 fun i _ => by rw [getD_replicate_false]; rfl]
    simp
  have fr0 : FrInv l.toArray n a Ψ (Array.replicate l.toArray.size false) a w.drew :=
    ⟨rfl, rfl, fun _ _ => rfl, fun i d _ h => (by rw [getD_replicate_false] at h; cases h), fun i _ h => (by rw [getD_replicate_false] at h; cases h)⟩
  have T := any_of_late (P := P) (Q := Q) (ops := l.toArray) (n := n) (p := p) (on := on) (op1 := op1) (op2 := op2) (a0 := a) (W := w.drew) (Ψ := Ψ) rfl hst hsel hsz hp (fun j hj hjp => (hB1 j hj).resolve_left hjp) hB2 (by simpa using hon) (by simpa using hop) (by simpa using ho2) r1 r2 r3 (by simpa [lexed] using hlex) hL hD hstep' (fun V w' g h => by rw [hdrop]; exact hend V w' g h) hlate n _ a w.drew hl0 inv0 fr0 (World.grownBy.refl _ _)
  rw [show n + (l.toArray.size - n) = l.toArray.size by omega] at T
  exact wp_region_any hm T
end
end Go.Proofs.Ytdfjaedafampaaa
