/- A region whose head draws its order, with what is kept among all its values, and whose tail is forced. -/
import Derived.Test.YtbpdggdpgohilaaG11
namespace Go.Proofs.Ytbpdggdpgohilaa
open Go.RowKit
set_option linter.unusedVariables false

section
variable {P : Program} {ops : Array Oper}
/-- what an operation's step must show -/
def stepFH (P : Program) (o : Oper) (T : World → World → Prop) (Φ Γ : (Nat → Value) → World → Prop) (V : Nat → Value) (i : Nat) (a : Act) (w : World) : Prop :=
  o.guard = none ∧ match (execOp a.eval o).run P w with
    | .ok (.value v) w' => o.dst.isSome = true ∧ T w w' ∧ Φ (upV V i v) w' ∧ Γ (upV V i v) w'
    | .ok .skip w' => T w w' ∧ Φ (upV V i undef) w' ∧ Γ (upV V i undef) w'
    | .ok (.enter f args) w' => o.dst.isSome = true ∧ Calls P f args w' (fun e w'' => ∃ v, e = .returned v ∧ T w w'' ∧ Φ (upV V i v) w'' ∧ Γ (upV V i v) w'')
    | _ => False
def stepFLH (P : Program) (ops : Array Oper) (T : World → World → Prop) (Φ Γ : (Nat → Value) → World → Prop) (V : Nat → Value) (i : Nat) (a : Act) (w : World) : Prop :=
  match ops[i]? with
  | none => False
  | some o => stepFH P o T Φ Γ V i a w
theorem stepFH_val {P : Program} {o : Oper} {T : World → World → Prop} {Φ Γ : (Nat → Value) → World → Prop} {V : Nat → Value} {i : Nat} {a : Act} {w w' : World} {v : Value} (hg : o.guard = none) (hd : o.dst.isSome = true) (hr : (execOp a.eval o).run P w = .ok (.value v) w') (hT : T w w') (hΦ : Φ (upV V i v) w') (hΓ : Γ (upV V i v) w') : stepFH P o T Φ Γ V i a w := by
  unfold stepFH
  rw [hr]
  exact ⟨hg, hd, hT, hΦ, hΓ⟩
theorem stepFH_call {P : Program} {o : Oper} {T : World → World → Prop} {Φ Γ : (Nat → Value) → World → Prop} {V : Nat → Value} {i : Nat} {a : Act} {w : World} {f : FuncId} {args : Array Value} (hg : o.guard = none) (hd : o.dst.isSome = true) (hr : (execOp a.eval o).run P w = .ok (.enter f args) w) (h : Calls P f args w fun e w'' => ∃ v, e = .returned v ∧ T w w'' ∧ Φ (upV V i v) w'' ∧ Γ (upV V i v) w'') : stepFH P o T Φ Γ V i a w := by
  unfold stepFH
  rw [hr]
  exact ⟨hg, hd, h⟩
structure FrLH (ops : Array Oper) (n : Nat) (a0 : Act) (Φ : Nat → (Nat → Value) → World → Prop) (Γ : (Nat → Value) → World → Prop) (listed : Array Bool) (a : Act) (w : World) : Prop where
  size : a.tmps.size = a0.tmps.size
  defers : a.defers = a0.defers
  old : ∀ s, (∀ i, i < n → listed.getD i false = true → dstOf ops i ≠ some s) → a.tmps[s]? = a0.tmps[s]?
  all : ∀ i, i < n → listed.getD i false = true → Φ i (valOf ops a) w
  g : Γ (valOf ops a) w
set_option maxHeartbeats 2000000 in
theorem any_of_lfH {n : Nat} {a0 : Act} {Q : Exit → Act → World → Prop} {K : Nat → World → Prop} {T : Nat → World → World → Prop} {Φ : Nat → (Nat → Value) → World → Prop} {Γ : (Nat → Value) → World → Prop}
    (hcong : ∀ i V V' w, i < n → V i = V' i → (∀ j, (depsOf ops i).contains j = true → V j = V' j) → Φ i V w → Φ i V' w)
    (hΓc : ∀ V V' w, (∀ j, j < n → V j = V' j) → Γ V w → Γ V' w)
    (hKT : ∀ i j w w', i < n → j < n → j ≠ i → (depsOf ops i).contains j = false → T i w w' → K j w → K j w')
    (hΦT : ∀ i j V w w', i < n → j < n → j ≠ i → (depsOf ops j).contains i = false → T i w w' → Φ j V w → Φ j V w')
    (hsel : Region.noSelect ops = true) {l : List Oper} (hl : ops = l.toArray) (hn : n < ops.size) (hs : Region.sinkB .any ops n = true) (hc : Region.chainB .any ops n = true) (hlex : Region.lexHead .any ops (ops.size - n) n 0 (lexed ops.size 0) = true) (hL : lookG ops n = true) (hD : dstR ops n a0.tmps.size = true)
    (hstep : ∀ i, i < n → ∀ V w, K i w → Γ V w → (∀ j, (depsOf ops i).contains j = true → Φ j V w) → stepFLH P ops (T i) (Φ i) Γ V i (frV ops a0 V i) w)
    (hend : ∀ V w, Γ V w → (∀ i, i < n → Φ i V w) → wpList P ops Q (l.drop n) (frV ops a0 V n) w) (f : Nat) :
    ∀ listed a w, left listed n = f → HeadInv .any ops n listed → FrLH ops n a0 Φ Γ listed a w → (∀ i, i < n → listed.getD i false = false → K i w) → wpAny P .any ops Q (f + (ops.size - n)) listed a w := by
  have hready : ∀ {listed : Array Bool} {i j : Nat}, i ∈ Region.ready .any ops listed → (depsOf ops i).contains j = true → listed.getD j false = true := fun hi hj =>
    waits_listed hi (List.mem_filter.1 (show _ ∈ depsOf ops _ by simpa using hj)).2
  induction f with
  | zero =>
    intro listed a w hf hinv inv hk
    have hall := left_zero hf
    have ea : a = frV ops a0 (valOf ops a) n := by
      obtain ⟨tm, df⟩ := a
      have h1 : tm = (frV ops a0 (valOf ops ⟨tm, df⟩) n).tmps := by
        apply Array.ext_getElem?
        intro s
        by_cases hex : ∃ j, j < n ∧ dstOf ops j = some s
        · obtain ⟨j, hj, hd⟩ := hex
          exact (frV_in a0 ⟨tm, df⟩ inv.size n s ⟨j, hj, hd⟩ (dstR_lt hD hj hd)).symm
        · have hno : ∀ j, j < n → dstOf ops j ≠ some s := fun j hj hd => hex ⟨j, hj, hd⟩
          rw [frV_out a0 _ n s hno]
          exact inv.old s fun i hi _ => hno i hi
      have h2 : df = (frV ops a0 (valOf ops ⟨tm, df⟩) n).defers := by rw [frV_defers]; exact inv.defers
      generalize frV ops a0 (valOf ops ⟨tm, df⟩) n = b at *
      obtain ⟨bt, bd⟩ := b
      simp_all
    have el : listed = lexed ops.size n := by
      apply Array.ext
      · rw [lexed_size]; exact hinv.size
      · intro i h1 h2
        have e1 := lexed_get ops.size n i (by rw [← hinv.size]; exact h1)
        by_cases hin : i < n
        · have e2 := hall i hin
          have : (lexed ops.size n).getD i false = true := by rw [e1]; simp [hin]
          simp [h1, h2] at e2 this
          rw [e2, this]
        · have e2 := getD_both (hinv.tail i (by omega) (by rw [← hinv.size]; exact h1))
          have : (lexed ops.size n).getD i false = false := by rw [e1]; simp [hin]
          simp [h1, h2] at e2 this
          rw [e2, this]
    have hw := hend (valOf ops a) w inv.g fun i hi => inv.all i hi (hall i hi)
    rw [← ea] at hw
    have hse := lexHead_end ops.size n 0 (by simpa using hlex)
    rw [Nat.zero_add] at hse
    have hdl : (l.drop n).length = ops.size - n := by rw [hl]; simp
    have T9 := wpAny_of_seq (md := .any) (P := P) (ops := ops) (Q' := Q) (l.drop n) n listed a w (fun j => by rw [hl]; simp [List.getElem?_drop]) (by rw [hdl, el]; exact hse) hw
    rw [hdl] at T9
    rw [Nat.zero_add]
    exact T9
  | succ f ih =>
    intro listed a w hf hinv inv hk0
    obtain ⟨k, hk, hkf, hkall⟩ := left_pos (by rw [hf]; exact Nat.succ_ne_zero f)
    have hkt : listed.getD k true = false := getD_in (by rw [hinv.size]; omega) hkf
    have hkr : k ∈ Region.ready .any ops listed := by
      have h0 := lexHead_at ops.size n 0 (by simpa using hlex) k (Nat.zero_le _) (by omega)
      obtain ⟨_, o, ho, hall⟩ := mem_ready.1 h0
      refine mem_ready.2 ⟨hkt, o, ho, fun e he hb => ?_⟩
      have h1 := hall e he hb
      have h2 : e.on < ops.size := by
        rcases Nat.lt_or_ge e.on (lexed ops.size k).size with h' | h'
        · rw [lexed_size] at h'; exact h'
        · simp [Array.getElem?_eq_none h'] at h1
      rw [lexed_get ops.size k e.on h2] at h1
      exact hkall e.on (by simpa using h1)
    rw [Nat.add_right_comm]
    refine ⟨fun h0 => absurd h0 (List.ne_nil_of_mem hkr), fun i hi => ?_⟩
    have hin : i < n := Nat.lt_of_not_le fun h => tail_waits hs hc hn hinv _ k rfl hk hkt i h hi
    obtain ⟨hiun, o, ho, hall⟩ := mem_ready.1 hi
    have hlk := lookG_spec hL hin ho
    have hd : dstOf ops i = o.dst := by unfold dstOf; rw [ho]; rfl
    have hdeps : ∀ j, (depsOf ops i).contains j = true → j < i ∧ listed.getD j false = true := fun j hj =>
      ⟨List.mem_range.1 (List.mem_filter.1 (show j ∈ depsOf ops i by simpa using hj)).1, hready hi hj⟩
    have S := hstep i hin (valOf ops a) w (hk0 i hin (getD_both hiun)) inv.g fun j hj => inv.all j (by have := (hdeps j hj).1; omega) (hdeps j hj).2
    unfold stepFLH stepFH at S
    simp only [ho] at S
    obtain ⟨hgd, S⟩ := S
    have hex : execOp a.eval o = execOp (frV ops a0 (valOf ops a) i).eval o := by
      refine execOp_congr o (fun cs b => Region.noSelect_spec hsel i o cs b ho) fun x hx => eval_same fun t ht => ?_
      subst ht
      have htl : t ∈ o.looksAt ops := List.mem_append_left _ (List.mem_filterMap.2 ⟨.tmp t, by simpa using hx, rfl⟩)
      by_cases hexi : ∃ j, j < n ∧ dstOf ops j = some t
      · obtain ⟨j, hj, hdj⟩ := hexi
        obtain ⟨hji, _⟩ := hlk t htl j hj hdj
        exact (frV_in a0 a inv.size i t ⟨j, hji, hdj⟩ (dstR_lt hD hj hdj)).symm
      · have hno : ∀ j, j < n → dstOf ops j ≠ some t := fun j hj hd => hexi ⟨j, hj, hd⟩
        rw [frV_out a0 _ i t fun j hj => hno j (by omega)]
        exact inv.old t fun j hj _ => hno j hj
    have next : ∀ v w', (dstOf ops i = none → v = undef) → T i w w' → Φ i (upV (valOf ops a) i v) w' → Γ (upV (valOf ops a) i v) w' → wpAny P .any ops Q (f + (ops.size - n)) (listed.setIfInBounds i true) (a.put o.dst v) w' := by
      intro v w' hun hgo hv hgv
      have hlf : left (listed.setIfInBounds i true) n = f := by have := left_set hin hiun; omega
      have hset : ∀ j, j ≠ i → (listed.setIfInBounds i true).getD j false = listed.getD j false := fun j hj => getD_set_ne false (Ne.symm hj)
      have hvo : ∀ j, j < n → valOf ops (a.put o.dst v) j = upV (valOf ops a) i v j := fun j hj => by
        by_cases hji : j = i
        · subst hji
          rw [upV_at]
          unfold valOf
          rw [hd]
          cases hod : o.dst with
          | none => exact (hun (by rw [hd, hod])).symm
          | some d =>
            have hlt : d < a.tmps.size := by rw [inv.size]; exact dstR_lt hD hin (by rw [hd, hod])
            have := put_same a d v hlt
            simp only [Array.getD_eq_getD_getElem?, this]
            rfl
        · rw [upV_ne hji]
          unfold valOf
          cases hdj : dstOf ops j with
          | none => rfl
          | some d =>
            have hne : o.dst ≠ some d := by rw [← hd]; exact dstR_ne hD hj hin hji hdj
            have := put_other a v hne
            simp only [Array.getD_eq_getD_getElem?, this]
      refine ih _ _ _ hlf (hinv.set hi hin) ?_ fun j hj hju => ?_
      · refine ⟨(put_size _ _ _).trans inv.size, (put_defers _ _ _).trans inv.defers, fun s hs' => ?_, fun j hj hjl => ?_, hΓc _ _ w' (fun j hj => (hvo j hj).symm) hgv⟩
        · have h1 : dstOf ops i ≠ some s := hs' i hin (by
            have : i < listed.size := by rw [hinv.size]; omega
            simp [this])
          rw [put_other _ _ (by rw [← hd]; exact h1)]
          exact inv.old s fun j hj hjl => hs' j hj (getD_set_true hjl)
        · by_cases hji : j = i
          · subst hji
            exact hcong j _ _ w' hj (hvo j hj).symm (fun q hq => (hvo q (by have := (hdeps q hq).1; omega)).symm) hv
          · rw [hset j hji] at hjl
            have hnd : (depsOf ops j).contains i = false := by
              cases hc : (depsOf ops j).contains i with
              | false => rfl
              | true =>
                obtain ⟨oj, hoj, e, he, hb, hon⟩ := Region.waitsFor_spec (List.mem_filter.1 (show i ∈ depsOf ops j by simpa using hc)).2
                have h9 := hinv.closed j oj hoj hjl e he hb
                rw [hon, getD_both hiun] at h9
                cases h9
            refine hΦT i j _ w w' hin hj hji hnd hgo (hcong j _ _ w hj ?_ (fun q hq => ?_) (inv.all j hj hjl))
            · rw [hvo j hj, upV_ne hji]
            · have hqi : q ≠ i := fun e => by subst e; rw [hnd] at hq; cases hq
              have hqj := List.mem_range.1 (List.mem_filter.1 (show q ∈ depsOf ops j by simpa using hq)).1
              rw [hvo q (by omega), upV_ne hqi]
      · have hji : j ≠ i := fun e => by
          subst e
          have : j < listed.size := by rw [hinv.size]; omega
          simp [this] at hju
        rw [hset j hji] at hju
        refine hKT i j w w' hin hj hji ?_ hgo (hk0 j hj hju)
        cases hc : (depsOf ops i).contains j with
        | false => rfl
        | true => rw [(hdeps j hc).2] at hju; cases hju
    unfold wpOp
    simp only [ho]
    have hwa : Region.wanted o (yielded ops a.tmps) = true := by unfold Region.wanted; rw [hgd]
    rw [if_pos hwa]
    refine .inl ?_
    unfold Oper.wp
    rw [hex]
    generalize (execOp (frV ops a0 (valOf ops a) i).eval o).run P w = r at S
    match r, S with
    | .ok (.value v) w', S => exact next v w' (fun e => by rw [← hd, e] at S; cases S.1) S.2.1 S.2.2.1 S.2.2.2
    | .ok .skip w', S => exact next undef w' (fun _ => rfl) S.1 S.2.1 S.2.2
    | .ok (.enter fn args) w', S =>
      rw [Oper.upon_enter]
      obtain ⟨hS, S⟩ := S
      refine Calls.mono S ?_
      rintro e w'' ⟨v, rfl, h1, h2, h3⟩
      exact next v w'' (fun e => by rw [← hd, e] at hS; cases hS) h1 h2 h3
/-- one operation behind the other -/
def lflH (P : Program) (ops : Array Oper) (K : Nat → World → Prop) (T : Nat → World → World → Prop) (Φ : Nat → (Nat → Value) → World → Prop) (Γ : (Nat → Value) → World → Prop) (V : Nat → Value) (F : Act → Prop) : Nat → List Oper → Act → Prop
  | _, [], A => F A
  | i, o :: rest, A => (∀ w, K i w → Γ V w → (∀ j, (depsOf ops i).contains j = true → Φ j V w) → stepFH P o (T i) (Φ i) Γ V i A w) ∧ lflH P ops K T Φ Γ V F (i + 1) rest (A.put o.dst (V i))
theorem lfl_getH {K : Nat → World → Prop} {T : Nat → World → World → Prop} {Φ : Nat → (Nat → Value) → World → Prop} {Γ : (Nat → Value) → World → Prop} {V : Nat → Value} {F : Act → Prop} {a : Act} {l : List Oper} (hl : ops = l.toArray) : ∀ {rest : List Oper} {i : Nat}, (∀ j, j < rest.length → rest[j]? = l[i + j]?) → lflH P ops K T Φ Γ V F i rest (frV ops a V i) →
    (∀ k, i ≤ k → k < i + rest.length → ∀ w, K k w → Γ V w → (∀ j, (depsOf ops k).contains j = true → Φ j V w) → stepFLH P ops (T k) (Φ k) Γ V k (frV ops a V k) w) ∧ F (frV ops a V (i + rest.length))
  | [], i, hr, h => ⟨fun k h1 h2 => by simp at h2; omega, h⟩
  | o :: rest, i, hr, h => by
    unfold lflH at h
    have h0 : l[i]? = some o := by simpa using (hr 0 (by simp)).symm
    have hd : dstOf ops i = o.dst := by unfold dstOf; rw [hl, List.getElem?_toArray, h0]; rfl
    have h2 := h.2
    rw [← hd, show (frV ops a V i).put (dstOf ops i) (V i) = frV ops a V (i + 1) from rfl] at h2
    have ih := lfl_getH (a := a) hl (rest := rest) (i := i + 1) (fun j hj => by have := hr (j + 1) (by simpa using hj); simpa [Nat.add_assoc, Nat.add_comm 1 j] using this) h2
    refine ⟨fun k h1 h3 => ?_, ?_⟩
    · by_cases e : k = i
      · subst e
        unfold stepFLH
        rw [hl, List.getElem?_toArray, h0, ← hl]
        exact h.1
      · exact ih.1 k (by omega) (by rw [List.length_cons] at h3; omega)
    · have := ih.2
      rwa [show i + 1 + rest.length = i + (o :: rest).length by rw [List.length_cons]; omega] at this
theorem lfl_consH {K : Nat → World → Prop} {T : Nat → World → World → Prop} {Φ : Nat → (Nat → Value) → World → Prop} {Γ : (Nat → Value) → World → Prop} {V : Nat → Value} {F : Act → Prop} {i : Nat} (k : Nat) (hk : i + 1 = k) {o : Oper} {rest : List Oper} {A : Act} (h1 : ∀ w, K i w → Γ V w → (∀ j, (depsOf ops i).contains j = true → Φ j V w) → stepFH P o (T i) (Φ i) Γ V i A w) (h2 : lflH P ops K T Φ Γ V F k rest (A.put o.dst (V i))) : lflH P ops K T Φ Γ V F i (o :: rest) A := ⟨h1, by rw [hk]; exact h2⟩
theorem lfl_nilH {K : Nat → World → Prop} {T : Nat → World → World → Prop} {Φ : Nat → (Nat → Value) → World → Prop} {Γ : (Nat → Value) → World → Prop} {V : Nat → Value} {F : Act → Prop} {i : Nat} {A : Act} (h : F A) : lflH P ops K T Φ Γ V F i [] A := h
/-- **The region.** -/
theorem region_lfH (K : Nat → World → Prop) (T : Nat → World → World → Prop) (Φ : Nat → (Nat → Value) → World → Prop) (Γ : (Nat → Value) → World → Prop) {id : Nat} {Q : Exit → Act → World → Prop} {a : Act} {w : World} {l : List Oper} (n : Nat)
    (hcong : ∀ i V V' w, i < n → V i = V' i → (∀ j, (depsOf l.toArray i).contains j = true → V j = V' j) → Φ i V w → Φ i V' w)
    (hΓc : ∀ V V' w, (∀ j, j < n → V j = V' j) → Γ V w → Γ V' w)
    (hKT : ∀ i j w w', i < n → j < n → j ≠ i → (depsOf l.toArray i).contains j = false → T i w w' → K j w → K j w')
    (hΦT : ∀ i j V w w', i < n → j < n → j ≠ i → (depsOf l.toArray j).contains i = false → T i w w' → Φ j V w → Φ j V w')
    (hm : P.follows .mixedOrders = true) (hB : Region.lexTailB .any l.toArray n = true) (hL : lookG l.toArray n = true) (hD : dstR l.toArray n a.tmps.size = true)
    (hK0 : ∀ i, i < n → K i w.drew) (hΓ0 : Γ (valOf l.toArray a) w.drew)
    (h : ∀ V, lflH P l.toArray K T Φ Γ V (fun A => ∀ w, Γ V w → (∀ i, i < n → Φ i V w) → wpList P l.toArray Q (l.drop n) A w) 0 (l.take n) a) : (Code.region id l.toArray true).wp P Q a w := by
  simp only [Region.lexTailB, Bool.and_eq_true, decide_eq_true_eq] at hB
  obtain ⟨⟨⟨⟨hsel, hn⟩, hs⟩, hc⟩, hlex⟩ := hB
  have hnl : n < l.length := by simpa using hn
  have inv0 : HeadInv .any l.toArray n (Array.replicate l.toArray.size false) :=
    ⟨by simp, fun j oj _ hl => (by rw [getD_replicate_false] at hl; cases hl), fun t _ ht => getD_in (by simpa using ht) (getD_replicate_false _ _)⟩
  have hl0 : left (Array.replicate l.toArray.size false) n = n := by
    unfold left
    rw [List.filter_eq_self.2 fun i _ => by rw [getD_replicate_false]; rfl]
    simp
  have fr0 : FrLH l.toArray n a Φ Γ (Array.replicate l.toArray.size false) a w.drew :=
    ⟨rfl, rfl, fun _ _ => rfl, fun i _ h => (by rw [getD_replicate_false] at h; cases h), hΓ0⟩
  have hll : (l.take n).length = n := by rw [List.length_take]; omega
  have hg := fun V => lfl_getH (a := a) (ops := l.toArray) (P := P) (K := K) (T := T) (Φ := Φ) (Γ := Γ) (V := V) (l := l) rfl (rest := l.take n) (i := 0) (fun j hj => by rw [Nat.zero_add, List.getElem?_take, if_pos (by omega)]) (h V)
  have A := any_of_lfH (P := P) (Q := Q) (ops := l.toArray) (n := n) (a0 := a) (K := K) (T := T) (Φ := Φ) (Γ := Γ) hcong hΓc hKT hΦT hsel rfl hn hs hc (by simpa [lexed] using hlex) hL hD
    (fun i hi V w => (hg V).1 i (Nat.zero_le _) (by rw [Nat.zero_add, hll]; exact hi) w)
    (fun V w hgw hw => by
      have h9 := (hg V).2
      rw [Nat.zero_add, hll] at h9
      exact h9 w hgw hw) n _ a w.drew hl0 inv0 fr0 (fun i hi _ => hK0 i hi)
  rw [show n + (l.toArray.size - n) = l.toArray.size by omega] at A
  exact wp_region_any hm A
end
end Go.Proofs.Ytbpdggdpgohilaa
