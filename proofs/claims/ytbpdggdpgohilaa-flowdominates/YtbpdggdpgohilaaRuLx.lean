/- A region that draws its order, walked as if in the text's order, over every world of a class. -/
import Derived.Test.YtbpdggdpgohilaaRuGd
namespace Go.Proofs.Ytbpdggdpgohilaa
open Go.RowKit
set_option linter.unusedVariables false

section
variable {P : Program} {ops : Array Oper} {R : World → World → Prop}
/-- what an operation's step must show; it may panic where that is an end -/
def stepVX (P : Program) (ops : Array Oper) (R : World → World → Prop) (Z : List PanicEntry → World → Prop) (Ψ : Nat → Value → World → Prop) (i : Nat) (a : Act) (w : World) : Prop :=
  match ops[i]? with
  | none => False
  | some o => if Region.wanted o (yielded ops a.tmps) = true then (match (execOp a.eval o).run P w with
    | .ok (.value v) w' => (dstOf ops i).isSome = true ∧ R w w' ∧ Ψ i v w'
    | .ok .skip w' => R w w' ∧ Ψ i undef w'
    | .ok (.enter f args) w' => (dstOf ops i).isSome = true ∧ Calls P f args w' (fun e w'' => (∃ v, e = .returned v ∧ R w w'' ∧ Ψ i v w'') ∨ (∃ c, e = .panicked c ∧ Z c w''))
    | .halt (.panic v) w' => Z [{ v, recovered := false }] w'
    | _ => False) else Ψ i undef w
set_option maxHeartbeats 2000000 in
theorem any_of_lx (htr : ∀ {w w1 w2 : World}, R w w1 → R w1 w2 → R w w2) (hrf : ∀ w : World, R w w) {n : Nat} {a0 : Act} {W : World} {Q : Exit → Act → World → Prop} {Ψ : Nat → Value → World → Prop} {Z : List PanicEntry → World → Prop} (hZ : ∀ c a w, a.defers = a0.defers → Z c w → Q (.panic c) a w) {l : List Oper} (hl : ops = l.toArray)
    (hst : ∀ i v w w', i < n → Ψ i v w → R w w' → Ψ i v w')
    (hsel : Region.noSelect ops = true) (hn : n < ops.size) (hs : Region.sinkB .any ops n = true) (hc : Region.chainB .any ops n = true) (hlex : Region.lexHead .any ops (ops.size - n) n 0 (lexed ops.size 0) = true)
    (hL : lookG ops n = true) (hD : dstR ops n a0.tmps.size = true)
    (hstep : ∀ i, i < n → ∀ V w', R W w' → (∀ j, (depsOf ops i).contains j = true → Ψ j (V j) w') → stepVX P ops R Z Ψ i (frV ops a0 V i) w')
    (hend : ∀ V w', R W w' → (∀ i, i < n → Ψ i (V i) w') → wpList P ops Q (l.drop n) (frV ops a0 V n) w') (f : Nat) :
    ∀ listed a w, left listed n = f → HeadInv .any ops n listed → FrInv ops n a0 Ψ listed a w → R W w → wpAny P .any ops Q (f + (ops.size - n)) listed a w := by
  have hval : ∀ {listed a w i}, FrInv ops n a0 Ψ listed a w → i < n → listed.getD i false = true → Ψ i (valOf ops a i) w := by
    intro listed a w i inv hi hli
    unfold valOf
    cases hd : dstOf ops i with
    | none => exact inv.non i hi hli hd
    | some d => exact inv.val i d hi hli hd
  induction f with
  | zero =>
    intro listed a w hf hinv inv hg
    have hall := left_zero hf
    have ea : a = frV ops a0 (valOf ops a) n := by
      obtain ⟨tm, df⟩ := a
      have h1 : tm = (frV ops a0 (valOf ops ⟨tm, df⟩) n).tmps := by
        apply Array.ext_getElem?
        intro s
        by_cases hex : ∃ j, j < n ∧ dstOf ops j = some s
        · obtain ⟨j, hj, hd⟩ := hex
          exact (frV_in a0 ⟨tm, df⟩ inv.size n s ⟨j, hj, hd⟩ (dstR_lt hD hj hd)).symm
        · have hno : ∀ j, j < n → dstOf ops j ≠ some s := fun j hj hd => hex ⟨j, hj, hd⟩
          rw [frV_out a0 _ n s hno]
          exact inv.old s fun i hi _ => hno i hi
      have h2 : df = (frV ops a0 (valOf ops ⟨tm, df⟩) n).defers := by rw [frV_defers]; exact inv.defers
      generalize frV ops a0 (valOf ops ⟨tm, df⟩) n = b at *
      obtain ⟨bt, bd⟩ := b
      simp_all
    have el : listed = lexed ops.size n := by
      apply Array.ext
      · rw [lexed_size]; exact hinv.size
      · intro i h1 h2
        have e1 := lexed_get ops.size n i (by rw [← hinv.size]; exact h1)
        by_cases hin : i < n
        · have e2 := hall i hin
          have : (lexed ops.size n).getD i false = true := by rw [e1]; simp [hin]
          simp [h1, h2] at e2 this
          rw [e2, this]
        · have e2 := getD_both (hinv.tail i (by omega) (by rw [← hinv.size]; exact h1))
          have : (lexed ops.size n).getD i false = false := by rw [e1]; simp [hin]
          simp [h1, h2] at e2 this
          rw [e2, this]
    have hw := hend (valOf ops a) w hg fun i hi => hval inv hi (hall i hi)
    rw [← ea] at hw
    have hse := lexHead_end ops.size n 0 (by simpa using hlex)
    rw [Nat.zero_add] at hse
    have hdl : (l.drop n).length = ops.size - n := by rw [hl]; simp
    have T := wpAny_of_seq (md := .any) (P := P) (ops := ops) (Q' := Q) (l.drop n) n listed a w (fun j => by rw [hl]; simp [List.getElem?_drop]) (by rw [hdl, el]; exact hse) hw
    rw [hdl] at T
    rw [Nat.zero_add]
    exact T
  | succ f ih =>
    intro listed a w hf hinv inv hg
    obtain ⟨k, hk, hkf, hkall⟩ := left_pos (by rw [hf]; exact Nat.succ_ne_zero f)
    have hkt : listed.getD k true = false := getD_in (by rw [hinv.size]; omega) hkf
    have hkr : k ∈ Region.ready .any ops listed := by
      have h0 := lexHead_at ops.size n 0 (by simpa using hlex) k (Nat.zero_le _) (by omega)
      obtain ⟨_, o, ho, hall⟩ := mem_ready.1 h0
      refine mem_ready.2 ⟨hkt, o, ho, fun e he hb => ?_⟩
      have h1 := hall e he hb
      have h2 : e.on < ops.size := by
        rcases Nat.lt_or_ge e.on (lexed ops.size k).size with h' | h'
        · rw [lexed_size] at h'; exact h'
        · simp [Array.getElem?_eq_none h'] at h1
      rw [lexed_get ops.size k e.on h2] at h1
      exact hkall e.on (by simpa using h1)
    rw [Nat.add_right_comm]
    refine ⟨fun h0 => absurd h0 (List.ne_nil_of_mem hkr), fun i hi => ?_⟩
    have hin : i < n := Nat.lt_of_not_le fun h => tail_waits hs hc hn hinv _ k rfl hk hkt i h hi
    obtain ⟨hiun, o, ho, hall⟩ := mem_ready.1 hi
    have hlk := lookG_spec hL hin ho
    have hd : dstOf ops i = o.dst := by unfold dstOf; rw [ho]; rfl
    have S := hstep i hin (valOf ops a) w hg fun j hj => by
      have hj' := List.mem_filter.1 (show j ∈ depsOf ops i by simpa using hj)
      have hlt := List.mem_range.1 hj'.1
      exact hval inv (by omega) (waits_listed hi hj'.2)
    unfold stepVX at S
    simp only [ho] at S
    have hex : execOp a.eval o = execOp (frV ops a0 (valOf ops a) i).eval o := by
      refine execOp_congr o (fun cs b => Region.noSelect_spec hsel i o cs b ho) fun x hx => eval_same fun t ht => ?_
      subst ht
      have htl : t ∈ o.looksAt ops := List.mem_append_left _ (List.mem_filterMap.2 ⟨.tmp t, by simpa using hx, rfl⟩)
      by_cases hexi : ∃ j, j < n ∧ dstOf ops j = some t
      · obtain ⟨j, hj, hdj⟩ := hexi
        obtain ⟨hji, _⟩ := hlk t htl j hj hdj
        exact (frV_in a0 a inv.size i t ⟨j, hji, hdj⟩ (dstR_lt hD hj hdj)).symm
      · have hno : ∀ j, j < n → dstOf ops j ≠ some t := fun j hj hd => hexi ⟨j, hj, hd⟩
        rw [frV_out a0 _ i t fun j hj => hno j (by omega)]
        exact inv.old t fun j hj _ => hno j hj
    have next : ∀ v w', (dstOf ops i = none → v = undef) → R w w' → Ψ i v w' → wpAny P .any ops Q (f + (ops.size - n)) (listed.setIfInBounds i true) (a.put o.dst v) w' := by
      intro v w' hun hg' hv
      have hlf : left (listed.setIfInBounds i true) n = f := by have := left_set hin hiun; omega
      refine ih _ _ _ hlf (hinv.set hi hin) ?_ (htr hg hg')
      have hset : ∀ j, j ≠ i → (listed.setIfInBounds i true).getD j false = true → listed.getD j false = true := fun j hj h => by rwa [getD_set_ne false (Ne.symm hj)] at h
      refine ⟨(put_size _ _ _).trans inv.size, (put_defers _ _ _).trans inv.defers, fun s hs' => ?_, fun j d hj hjl hjd => ?_, fun j hj hjl hjd => ?_⟩
      · have h1 : dstOf ops i ≠ some s := hs' i hin (by
          have : i < listed.size := by rw [hinv.size]; omega
          simp [this])
        rw [put_other _ _ (by rw [← hd]; exact h1)]
        exact inv.old s fun j hj hjl => hs' j hj (getD_set_true hjl)
      · by_cases hji : j = i
        · subst hji
          have e : o.dst = some d := by rw [← hd]; exact hjd
          rw [e]
          have hlt : d < a.tmps.size := by rw [inv.size]; exact dstR_lt hD hin hjd
          have := put_same a d v hlt
          rw [Array.getD_eq_getD_getElem?, this]
          exact hv
        · have hne : o.dst ≠ some d := by rw [← hd]; exact dstR_ne hD hj hin hji hjd
          have := put_other a v hne
          rw [Array.getD_eq_getD_getElem?, this, ← Array.getD_eq_getD_getElem?]
          exact hst _ _ _ _ hj (inv.val j d hj (hset j hji hjl) hjd) hg'
      · by_cases hji : j = i
        · subst hji
          rw [← hun hjd]; exact hv
        · exact hst _ _ _ _ hj (inv.non j hj (hset j hji hjl) hjd) hg'
    have hwv : Region.wanted o (yielded ops a.tmps) = Region.wanted o (yielded ops (frV ops a0 (valOf ops a) i).tmps) := by
      unfold Region.wanted
      cases hgd : o.guard with
      | none => rfl
      | some x =>
        obtain ⟨g, want⟩ := x
        have hy : yielded ops a.tmps g = yielded ops (frV ops a0 (valOf ops a) i).tmps g := by
          unfold yielded
          cases hdg : (ops[g]?).bind (·.dst) with
          | none => rfl
          | some t =>
            have htl : t ∈ o.looksAt ops := by
              unfold Oper.looksAt
              rw [hgd]
              exact List.mem_append_right _ (by simp only [hdg]; simp)
            have he : a.tmps[t]? = (frV ops a0 (valOf ops a) i).tmps[t]? := by
              by_cases hexi : ∃ j, j < n ∧ dstOf ops j = some t
              · obtain ⟨j, hj, hdj⟩ := hexi
                obtain ⟨hji, _⟩ := hlk t htl j hj hdj
                exact (frV_in a0 a inv.size i t ⟨j, hji, hdj⟩ (dstR_lt hD hj hdj)).symm
              · have hno : ∀ j, j < n → dstOf ops j ≠ some t := fun j hj hd => hexi ⟨j, hj, hd⟩
                rw [frV_out a0 _ i t fun j hj => hno j (by omega)]
                exact inv.old t fun j hj _ => hno j hj
            simp only [Option.bind_some, he]
        simp only [hy]
    unfold wpOp
    simp only [ho]
    rw [hwv]
    by_cases hwa : Region.wanted o (yielded ops (frV ops a0 (valOf ops a) i).tmps) = true
    case neg =>
      rw [if_neg hwa]
      rw [if_neg hwa] at S
      exact next undef w (fun _ => rfl) (hrf w) S
    rw [if_pos hwa]
    rw [if_pos hwa] at S
    refine .inl ?_
    unfold Oper.wp
    rw [hex]
    generalize (execOp (frV ops a0 (valOf ops a) i).eval o).run P w = r at S
    match r, S with
    | .ok (.value v) w', S => exact next v w' (fun e => by rw [e] at S; cases S.1) S.2.1 S.2.2
    | .ok .skip w', S => exact next undef w' (fun _ => rfl) S.1 S.2
    | .ok (.enter fn args) w', S =>
      rw [Oper.upon_enter]
      obtain ⟨hS, S⟩ := S
      refine Calls.mono S ?_
      rintro e w'' (⟨v, rfl, h1, h2⟩ | ⟨c, rfl, hz⟩)
      · exact next v w'' (fun e => by rw [e] at hS; cases hS) h1 h2
      · exact hZ c a w'' inv.defers hz
    | .halt (.panic v) w', S => exact hZ _ a w' inv.defers S
theorem region_invX (htr : ∀ {w w1 w2 : World}, R w w1 → R w1 w2 → R w w2) (hrf : ∀ w : World, R w w) {id : Nat} {Q : Exit → Act → World → Prop} {a : Act} {w : World} {l : List Oper} (n : Nat) (Ψ : Nat → Value → World → Prop) {Z : List PanicEntry → World → Prop} (hZ : ∀ c a' w, a'.defers = a.defers → Z c w → Q (.panic c) a' w)
    (hm : P.follows .mixedOrders = true) (hB : Region.lexTailB .any l.toArray n = true) (hL : lookG l.toArray n = true) (hD : dstR l.toArray n a.tmps.size = true)
    (hst : ∀ i v w w', i < n → Ψ i v w → R w w' → Ψ i v w')
    (hstep : ∀ i, i < n → ∀ V w', R w.drew w' → (∀ j, (depsOf l.toArray i).contains j = true → Ψ j (V j) w') → stepVX P l.toArray R Z Ψ i (frV l.toArray a V i) w')
    (hend : ∀ V w', R w.drew w' → (∀ i, i < n → Ψ i (V i) w') → wpList P l.toArray Q (l.drop n) (frV l.toArray a V n) w') : (Code.region id l.toArray true).wp P Q a w := by
  simp only [Region.lexTailB, Bool.and_eq_true, decide_eq_true_eq] at hB
  obtain ⟨⟨⟨⟨hsel, hn⟩, hs⟩, hc⟩, hlex⟩ := hB
  have inv0 : HeadInv .any l.toArray n (Array.replicate l.toArray.size false) :=
    ⟨by simp, fun j oj _ hl => (by rw [getD_replicate_false] at hl; cases hl), fun t _ ht => getD_in (by simpa using ht) (getD_replicate_false _ _)⟩
  have hl0 : left (Array.replicate l.toArray.size false) n = n := by
    unfold left
    rw [List.filter_eq_self.2 fun i _ => by rw [getD_replicate_false]; rfl]
    simp
  have fr0 : FrInv l.toArray n a Ψ (Array.replicate l.toArray.size false) a w.drew :=
    ⟨rfl, rfl, fun _ _ => rfl, fun i d _ h => (by rw [getD_replicate_false] at h; cases h), fun i _ h => (by rw [getD_replicate_false] at h; cases h)⟩
  have T := any_of_lx (R := R) htr hrf (P := P) (Q := Q) (ops := l.toArray) (n := n) (a0 := a) (W := w.drew) (Ψ := Ψ) hZ rfl hst hsel hn hs hc (by simpa [lexed] using hlex) hL hD hstep hend n _ a w.drew hl0 inv0 fr0 (hrf _)
  rw [show n + (l.toArray.size - n) = l.toArray.size by omega] at T
  exact wp_region_any hm T
/-- frames that agree where they are looked at -/
theorem frV_same {a : Act} {V V' : Nat → Value} {t : Nat} : ∀ {i : Nat}, (∀ j, j < i → dstOf ops j = some t → V j = V' j) → (frV ops a V i).tmps[t]? = (frV ops a V' i).tmps[t]?
  | 0, _ => rfl
  | i + 1, h => by
    have ih := frV_same (a := a) (V := V) (V' := V') (t := t) (i := i) fun j hj => h j (by omega)
    rw [frV, frV]
    by_cases he : dstOf ops i = some t
    · rw [h i (by omega) he, he]
      by_cases hlt : t < (frV ops a V i).tmps.size
      · rw [put_same _ _ _ hlt, put_same _ _ _ (by rw [frV_size] at hlt ⊢; exact hlt)]
      · rw [Array.getElem?_eq_none (by rw [put_size]; omega), Array.getElem?_eq_none (by rw [put_size, frV_size]; rw [frV_size] at hlt; omega)]
    · rw [put_other _ _ he, put_other _ _ he]; exact ih
theorem frV_congr {a : Act} {V V' : Nat → Value} : ∀ {i : Nat}, (∀ j, j < i → V j = V' j) → frV ops a V i = frV ops a V' i
  | 0, _ => rfl
  | i + 1, h => by rw [frV, frV, frV_congr fun j hj => h j (by omega), h i (by omega)]
/-- how an operation comes out; none: it does not come back -/
def lxOut (P : Program) (ops : Array Oper) (K : World → Prop) (Z : List PanicEntry → World → Prop) (i : Nat) (v : Option Value) : Result Next → Prop
  | .ok (.value x) w' => (dstOf ops i).isSome = true ∧ K w' ∧ v = some x
  | .ok .skip w' => K w' ∧ v = some undef
  | .ok (.enter f args) w' => (dstOf ops i).isSome = true ∧ Calls P f args w' (fun e w'' => (∃ x, e = .returned x ∧ K w'' ∧ v = some x) ∨ (∃ c, e = .panicked c ∧ Z c w''))
  | .halt (.panic x) w' => Z [{ v := x, recovered := false }] w'
  | _ => False
def lxStep (P : Program) (ops : Array Oper) (K : World → Prop) (Z : List PanicEntry → World → Prop) (i : Nat) (o : Oper) (A : Act) (v : Option Value) (w : World) : Prop :=
  if Region.wanted o (yielded ops A.tmps) = true then lxOut P ops K Z i v ((execOp A.eval o).run P w) else v = some undef
/-- one operation behind the other, in every world of the class -/
def lxs (P : Program) (ops : Array Oper) (K : World → Prop) (Z : List PanicEntry → World → Prop) (E : Act → Prop) : List Nat → Nat → List Oper → Act → Prop
  | bad, _, [], A => bad = [] → E A
  | bad, i, o :: rest, A => (bad.any (fun j => (depsOf ops i).contains j) = true ∧ lxs P ops K Z E (i :: bad) (i + 1) rest (A.put (dstOf ops i) undef)) ∨
    ∃ v : Option Value, (∀ w, K w → lxStep P ops K Z i o A v w) ∧ lxs P ops K Z E (match v with | some _ => bad | none => i :: bad) (i + 1) rest (A.put (dstOf ops i) (v.getD undef))
theorem lxs_outs {K : World → Prop} {Z : List PanicEntry → World → Prop} {E : Act → Prop} {a : Act} : ∀ {rest : List Oper} {i : Nat} {A : Act} {bad : List Nat} (pre : Nat → Option Value),
    A = frV ops a (fun j => (pre j).getD undef) i → (∀ j, j ∈ bad ↔ (j < i ∧ pre j = none)) → lxs P ops K Z E bad i rest A →
    ∃ outs : Nat → Option Value, (∀ j, j < i → outs j = pre j) ∧ (∀ k o, rest[k]? = some o → (outs (i + k) = none ∧ ∃ j, outs j = none ∧ (depsOf ops (i + k)).contains j = true) ∨ ∀ w, K w → lxStep P ops K Z (i + k) o (frV ops a (fun j => (outs j).getD undef) (i + k)) (outs (i + k)) w) ∧
      ((∀ j, j < i + rest.length → outs j ≠ none) → E (frV ops a (fun j => (outs j).getD undef) (i + rest.length)))
  | [], i, A, bad, pre, hA, hb, h => by
    refine ⟨pre, fun _ _ => rfl, fun k o ho => by simp at ho, fun hn => ?_⟩
    have h0 : bad = [] := by
      cases bad with
      | nil => rfl
      | cons j l =>
        have h9 := (hb j).1 (by simp)
        exact absurd h9.2 (hn j (by simpa using h9.1))
    have h1 := h h0
    rw [hA] at h1
    simpa using h1
  | o :: rest, i, A, bad, pre, hA, hb, h => by
    have key : ∀ (v : Option Value) (bad' : List Nat), (∀ j, j ∈ bad' ↔ (j < i + 1 ∧ (if j = i then v else pre j) = none)) → lxs P ops K Z E bad' (i + 1) rest (A.put (dstOf ops i) (v.getD undef)) →
        (∀ outs : Nat → Option Value, (∀ j, j < i → outs j = pre j) → outs i = v → (outs i = none ∧ ∃ j, outs j = none ∧ (depsOf ops i).contains j = true) ∨ ∀ w, K w → lxStep P ops K Z i o (frV ops a (fun j => (outs j).getD undef) i) (outs i) w) →
        ∃ outs : Nat → Option Value, (∀ j, j < i → outs j = pre j) ∧ (∀ k o', (o :: rest)[k]? = some o' → (outs (i + k) = none ∧ ∃ j, outs j = none ∧ (depsOf ops (i + k)).contains j = true) ∨ ∀ w, K w → lxStep P ops K Z (i + k) o' (frV ops a (fun j => (outs j).getD undef) (i + k)) (outs (i + k)) w) ∧
          ((∀ j, j < i + (o :: rest).length → outs j ≠ none) → E (frV ops a (fun j => (outs j).getD undef) (i + (o :: rest).length))) := by
      intro v bad' hb' h' hst
      have hA' : A.put (dstOf ops i) (v.getD undef) = frV ops a (fun j => ((fun j => if j = i then v else pre j) j).getD undef) (i + 1) := by
        rw [frV, hA]
        have e1 : frV ops a (fun j => (pre j).getD undef) i = frV ops a (fun j => ((fun j => if j = i then v else pre j) j).getD undef) i := frV_congr fun j hj => by
          have : j ≠ i := by omega
          simp [this]
        rw [e1]
        simp
      obtain ⟨outs, ho1, ho2, ho3⟩ := lxs_outs (rest := rest) (fun j => if j = i then v else pre j) hA' hb' h'
      have hpre : ∀ j, j < i → outs j = pre j := fun j hj => by
        have := ho1 j (by omega)
        have hne : j ≠ i := by omega
        simpa [hne] using this
      have hi : outs i = v := by simpa using ho1 i (by omega)
      refine ⟨outs, hpre, fun k o' hk => ?_, fun hn => ?_⟩
      · cases k with
        | zero =>
          obtain rfl : o = o' := by simpa using hk
          exact hst outs hpre hi
        | succ k =>
          have := ho2 k o' (by simpa using hk)
          rwa [show i + 1 + k = i + (k + 1) by omega] at this
      · have := ho3 fun j hj => hn j (by simp; omega)
        rwa [show i + 1 + rest.length = i + (o :: rest).length by simp; omega] at this
    rcases h with ⟨hany, h'⟩ | ⟨v, hv, h'⟩
    · refine key none (i :: bad) (fun j => ?_) h' fun outs hpre hi => .inl ⟨hi, ?_⟩
      · rw [List.mem_cons, hb j]
        by_cases hj : j = i
        · simp [hj]
        · simp only [hj, if_false, false_or]
          constructor
          · rintro ⟨h1, h2⟩; exact ⟨by omega, h2⟩
          · rintro ⟨h1, h2⟩; exact ⟨by omega, h2⟩
      · obtain ⟨j, hj, hc⟩ := List.any_eq_true.1 hany
        have h9 := (hb j).1 hj
        exact ⟨j, by rw [hpre j h9.1]; exact h9.2, hc⟩
    · refine key v _ (fun j => ?_) h' fun outs hpre hi => .inr fun w hw => ?_
      · cases v with
        | none =>
          simp only [List.mem_cons, hb j]
          by_cases hj : j = i
          · simp [hj]
          · simp only [hj, if_false, false_or]
            constructor
            · rintro ⟨h1, h2⟩; exact ⟨by omega, h2⟩
            · rintro ⟨h1, h2⟩; exact ⟨by omega, h2⟩
        | some x =>
          simp only [hb j]
          by_cases hj : j = i
          · simp [hj]
          · simp only [hj, if_false]
            constructor
            · rintro ⟨h1, h2⟩; exact ⟨by omega, h2⟩
            · rintro ⟨h1, h2⟩; exact ⟨by omega, h2⟩
      · have := hv w hw
        rw [hA] at this
        rw [hi, frV_congr (V' := fun j => (pre j).getD undef) fun j hj => by simp only [hpre j hj]]
        exact this
set_option maxHeartbeats 2000000 in
/-- **A region that draws its order, walked as if in the text's order, over every world of a class.** -/
theorem region_lx (K : World → Prop) {id : Nat} {Q : Exit → Act → World → Prop} {a : Act} {w : World} {l : List Oper} (n : Nat) (hm : P.follows .mixedOrders = true) (hB : Region.lexTailB .any l.toArray n = true) (hL : lookG l.toArray n = true) (hD : dstR l.toArray n a.tmps.size = true)
    (hK : K w.drew) (h : lxs P l.toArray K (fun c w => ∀ a', a'.defers = a.defers → Q (.panic c) a' w) (fun A => ∀ w', K w' → wpList P l.toArray Q (l.drop n) A w') [] 0 (l.take n) a) : (Code.region id l.toArray true).wp P Q a w := by
  have hn : n < l.length := by
    simp only [Region.lexTailB, Bool.and_eq_true, decide_eq_true_eq] at hB
    simpa using hB.1.1.1.2
  have hsel : Region.noSelect l.toArray = true := by
    simp only [Region.lexTailB, Bool.and_eq_true, decide_eq_true_eq] at hB
    exact hB.1.1.1.1
  obtain ⟨outs, -, hst, hE⟩ := lxs_outs (ops := l.toArray) (P := P) (a := a) (fun _ => some undef) rfl (by simp) h
  simp only [Nat.zero_add] at hst hE
  have hlen : (l.take n).length = n := by rw [List.length_take]; omega
  rw [hlen] at hE
  refine region_invX (R := fun w w' => K w → K w') (fun h1 h2 h3 => h2 (h1 h3)) (fun _ h => h) n (fun i v _ => outs i = some v) (Z := fun c w => ∀ a', a'.defers = a.defers → Q (.panic c) a' w) (fun c a' w hd h => h a' hd) hm hB hL hD (fun i v w w' _ h _ => h) (fun i hi V w' g hV => ?_) fun V w' g hV => ?_
  · have ho : (l.take n)[i]? = some l[i] := by rw [List.getElem?_take, if_pos hi, List.getElem?_eq_getElem (by omega)]
    have ho' : l.toArray[i]? = some l[i] := by rw [List.getElem?_toArray, List.getElem?_eq_getElem (by omega)]
    unfold stepVX
    rw [ho']
    have hlk := lookG_spec hL hi ho'
    rcases hst i _ ho with ⟨_, j, hj, hc⟩ | hs
    · have := hV j hc
      rw [hj] at this
      cases this
    · have hs := hs w' (g hK)
      have same : ∀ t, t ∈ (l[i]).looksAt l.toArray → (frV l.toArray a V i).tmps[t]? = (frV l.toArray a (fun j => (outs j).getD undef) i).tmps[t]? := fun t ht => frV_same fun j hj hd => by
        have h9 := (hlk t ht j (by omega) hd).2
        have h8 := hV j (by
          have : j ∈ depsOf l.toArray i := List.mem_filter.2 ⟨List.mem_range.2 hj, h9⟩
          simpa using this)
        simp only [h8]
        rfl
      have hex : execOp (frV l.toArray a V i).eval l[i] = execOp (frV l.toArray a (fun j => (outs j).getD undef) i).eval l[i] := by
        refine execOp_congr _ (fun cs b => Region.noSelect_spec hsel i _ cs b ho') fun x hx => eval_same fun t ht => ?_
        subst ht
        exact same t (List.mem_append_left _ (List.mem_filterMap.2 ⟨.tmp t, by simpa using hx, rfl⟩))
      have hwn : Region.wanted l[i] (yielded l.toArray (frV l.toArray a V i).tmps) = Region.wanted l[i] (yielded l.toArray (frV l.toArray a (fun j => (outs j).getD undef) i).tmps) := by
        unfold Region.wanted
        cases hgd : (l[i]).guard with
        | none => rfl
        | some x =>
          obtain ⟨g, want⟩ := x
          have hy : yielded l.toArray (frV l.toArray a V i).tmps g = yielded l.toArray (frV l.toArray a (fun j => (outs j).getD undef) i).tmps g := by
            unfold yielded
            cases hdg : (l.toArray[g]?).bind (·.dst) with
            | none => rfl
            | some t =>
              have he := same t (by
                unfold Oper.looksAt
                rw [hgd]
                exact List.mem_append_right _ (by simp only [hdg]; simp))
              simp only [Option.bind_some, he]
          simp only [hy]
      show (if Region.wanted l[i] (yielded l.toArray (frV l.toArray a V i).tmps) = true then _ else _)
      rw [hwn, hex]
      unfold lxStep at hs
      by_cases hwa : Region.wanted l[i] (yielded l.toArray (frV l.toArray a (fun j => (outs j).getD undef) i).tmps) = true
      · rw [if_pos hwa] at hs ⊢
        generalize (execOp (frV l.toArray a (fun j => (outs j).getD undef) i).eval l[i]).run P w' = r at hs
        match r, hs with
        | .ok (.value v) w2, hs => exact ⟨hs.1, fun _ => hs.2.1, hs.2.2⟩
        | .ok .skip w2, hs => exact ⟨fun _ => hs.1, hs.2⟩
        | .ok (.enter fn args) w2, hs =>
          refine ⟨hs.1, hs.2.mono ?_⟩
          rintro e w3 (⟨x, h1, h2, h3⟩ | h1)
          · exact .inl ⟨x, h1, fun _ => h2, h3⟩
          · exact .inr h1
        | .halt (.panic v) w2, hs => exact hs
      · rw [if_neg hwa] at hs ⊢
        exact hs
  · have hall : ∀ j, j < n → outs j ≠ none := fun j hj => by rw [hV j hj]; simp
    have h9 := hE hall w' (g hK)
    rw [frV_congr (V' := fun j => (outs j).getD undef) fun j hj => by simp only [hV j hj]; rfl]
    exact h9
/-- the steps -/
theorem lx_val {K : World → Prop} {Z : List PanicEntry → World → Prop} {E : Act → Prop} {bad : List Nat} {i : Nat} {o : Oper} {rest : List Oper} {A : Act} {v : Value} (hw : Region.wanted o (yielded ops A.tmps) = true) (hd : dstOf ops i = o.dst ∧ o.dst.isSome = true)
    (h : ∀ w, K w → (execOp A.eval o).run P w = .ok (.value v) w) (hr : lxs P ops K Z E bad (i + 1) rest (A.put o.dst v)) : lxs P ops K Z E bad i (o :: rest) A :=
  .inr ⟨some v, fun w hk => by unfold lxStep; rw [if_pos hw, h w hk]; exact ⟨by rw [hd.1]; exact hd.2, hk, rfl⟩, by rw [hd.1]; exact hr⟩
theorem lx_no {K : World → Prop} {Z : List PanicEntry → World → Prop} {E : Act → Prop} {bad : List Nat} {i : Nat} {o : Oper} {rest : List Oper} {A : Act} (hw : Region.wanted o (yielded ops A.tmps) = false) (hd : dstOf ops i = o.dst) (hr : lxs P ops K Z E bad (i + 1) rest (A.put o.dst undef)) : lxs P ops K Z E bad i (o :: rest) A :=
  .inr ⟨some undef, fun w hk => by unfold lxStep; rw [if_neg (by rw [hw]; simp)], by rw [hd]; exact hr⟩
theorem lx_call {K : World → Prop} {Z : List PanicEntry → World → Prop} {E : Act → Prop} {bad : List Nat} {i : Nat} {o : Oper} {rest : List Oper} {A : Act} {v : Value} {f : FuncId} {args : Array Value} (hw : Region.wanted o (yielded ops A.tmps) = true) (hd : dstOf ops i = o.dst ∧ o.dst.isSome = true)
    (h : ∀ w, K w → (execOp A.eval o).run P w = .ok (.enter f args) w) (hc : ∀ w, K w → Calls P f args w fun e w' => e = .returned v ∧ K w') (hr : lxs P ops K Z E bad (i + 1) rest (A.put o.dst v)) : lxs P ops K Z E bad i (o :: rest) A :=
  .inr ⟨some v, fun w hk => by unfold lxStep; rw [if_pos hw, h w hk]; exact ⟨by rw [hd.1]; exact hd.2, (hc w hk).mono fun e w' hh => .inl ⟨v, hh.1, hh.2, rfl⟩⟩, by rw [hd.1]; exact hr⟩
theorem lx_stop {K : World → Prop} {Z : List PanicEntry → World → Prop} {E : Act → Prop} {bad : List Nat} {i : Nat} {o : Oper} {rest : List Oper} {A : Act} {f : FuncId} {args : Array Value} {c : List PanicEntry} (hw : Region.wanted o (yielded ops A.tmps) = true) (hd : dstOf ops i = o.dst ∧ o.dst.isSome = true)
    (h : ∀ w, K w → (execOp A.eval o).run P w = .ok (.enter f args) w) (hc : ∀ w, K w → Calls P f args w fun e w' => e = .panicked c ∧ Z c w') (hr : lxs P ops K Z E (i :: bad) (i + 1) rest (A.put o.dst undef)) : lxs P ops K Z E bad i (o :: rest) A :=
  .inr ⟨none, fun w hk => by unfold lxStep; rw [if_pos hw, h w hk]; exact ⟨by rw [hd.1]; exact hd.2, (hc w hk).mono fun e w' hh => .inr ⟨c, hh.1, hh.2⟩⟩, by rw [hd.1]; exact hr⟩
theorem lx_never {K : World → Prop} {Z : List PanicEntry → World → Prop} {E : Act → Prop} {bad : List Nat} {i : Nat} {o : Oper} {rest : List Oper} {A : Act} (h : bad.any (fun j => (depsOf ops i).contains j) = true) (hd : dstOf ops i = o.dst) (hr : lxs P ops K Z E (i :: bad) (i + 1) rest (A.put o.dst undef)) : lxs P ops K Z E bad i (o :: rest) A := .inl ⟨h, by rw [hd]; exact hr⟩
theorem lx_end {K : World → Prop} {Z : List PanicEntry → World → Prop} {E : Act → Prop} {i : Nat} {A : Act} (h : E A) : lxs P ops K Z E [] i [] A := fun _ => h
theorem lx_lost {K : World → Prop} {Z : List PanicEntry → World → Prop} {E : Act → Prop} {i j : Nat} {bad : List Nat} {A : Act} : lxs P ops K Z E (j :: bad) i [] A := fun h => by cases h
/-- over all worlds that have grown out of one -/
theorem region_lg {W1 : World} {id : Nat} {Q : Exit → Act → World → Prop} {a : Act} {w : World} {l : List Oper} (n : Nat) (hg : W1.grownBy w none) (hm : P.follows .mixedOrders = true) (hB : Region.lexTailB .any l.toArray n = true) (hL : lookG l.toArray n = true) (hD : dstR l.toArray n a.tmps.size = true)
    (h : lxs P l.toArray (fun W => W1.grownBy W none) (fun c w => ∀ a', a'.defers = a.defers → Q (.panic c) a' w) (fun A => ∀ w', W1.grownBy w' none → wpList P l.toArray Q (l.drop n) A w') [] 0 (l.take n) a) : (Code.region id l.toArray true).wp P Q a w :=
  region_lx (fun W => W1.grownBy W none) n hm hB hL hD (grown_drew hg) h
theorem lx_callg {W1 : World} {Z : List PanicEntry → World → Prop} {E : Act → Prop} {bad : List Nat} {i : Nat} {o : Oper} {rest : List Oper} {A : Act} {v : Value} {f : FuncId} {args : Array Value} (hc : ∀ W, W1.grownBy W none → Calls P f args W fun e w' => e = .returned v ∧ W.grownBy w' none) (hw : Region.wanted o (yielded ops A.tmps) = true) (hd : dstOf ops i = o.dst ∧ o.dst.isSome = true)
    (h : ∀ w, W1.grownBy w none → (execOp A.eval o).run P w = .ok (.enter f args) w) (hr : lxs P ops (fun W => W1.grownBy W none) Z E bad (i + 1) rest (A.put o.dst v)) : lxs P ops (fun W => W1.grownBy W none) Z E bad i (o :: rest) A :=
  lx_call hw hd h (fun w hk => (hc w hk).mono fun e w' hh => ⟨hh.1, grown_trans hk hh.2⟩) hr
theorem lx_stopg {W1 : World} {Z : List PanicEntry → World → Prop} {E : Act → Prop} {bad : List Nat} {i : Nat} {o : Oper} {rest : List Oper} {A : Act} {f : FuncId} {args : Array Value} {c : List PanicEntry} (hc : ∀ W, W1.grownBy W none → Calls P f args W fun e w' => e = .panicked c ∧ W.grownBy w' none) (hw : Region.wanted o (yielded ops A.tmps) = true) (hd : dstOf ops i = o.dst ∧ o.dst.isSome = true)
    (h : ∀ w, W1.grownBy w none → (execOp A.eval o).run P w = .ok (.enter f args) w) (hz : ∀ w, W1.grownBy w none → Z c w) (hr : lxs P ops (fun W => W1.grownBy W none) Z E (i :: bad) (i + 1) rest (A.put o.dst undef)) : lxs P ops (fun W => W1.grownBy W none) Z E bad i (o :: rest) A :=
  lx_stop hw hd h (fun w hk => (hc w hk).mono fun e w' hh => ⟨hh.1, hz _ (grown_trans hk hh.2)⟩) hr
end
end Go.Proofs.Ytbpdggdpgohilaa
