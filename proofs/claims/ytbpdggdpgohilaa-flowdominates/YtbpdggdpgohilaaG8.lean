/- Contracts and plain facts that the walks share. -/
import Derived.Test.YtbpdggdpgohilaaG7
import Derived.Test.YtbpdggdpgohilaaRuLu
import Derived.Test.YtbpdggdpgohilaaRuLx
import Derived.Laws.CopyOwn
import Derived.Laws.Bits64b
namespace Go.Proofs.Ytbpdggdpgohilaa
open Go.RowKit
set_option linter.unusedVariables false
set_option maxRecDepth 100000
set_option maxHeartbeats 8000000
/-- a world that has grown out of W -/
theorem Gw.on {W w' : World} {y : Gw W} (h : y.w.grownBy w' none) : ∃ z : Gw W, w' = z.w := ⟨⟨w', grown_trans y.h h⟩, rfl⟩
theorem Gw.of {W w' : World} (h : W.grownBy w' none) : ∃ z : Gw W, w' = z.w := ⟨⟨w', h⟩, rfl⟩
/-- numbers written out in a call -/
theorem NumL.lit {w : World} {t : TypeId} (l : List Int) (hl : l.length ≤ 100) {b : Nat} {vs : Array Value} (hb : w.heap[b]? = some (.cells vs t)) (hv : vs = (l.map (Value.int .i64)).toArray) : NumL (fun _ => True) w (some ⟨b, 0, none⟩) l.length l := by
  refine ⟨(fun h => by cases h), Nat.le_refl _, by unfold maxLen; omega, by unfold reachBytes; omega, .inr ⟨b, 0, rfl, trivial, fun i x hx => ?_⟩⟩
  unfold NumQ
  simp [World.cell?, hb, hv, hx]
/-- a prefix of a row -/
theorem NumL.pre {B : Nat → Prop} {w : World} {a : Option Addr} {k : Nat} {l : List Int} (h : NumL B w a k l) (m : Nat) : NumL B w a k (l.take m) := by
  refine ⟨fun e => ?_, ?_, h.max, ?_, ?_⟩
  · have := h.nil e; rw [this.1]; exact ⟨by simp, this.2⟩
  · have := h.le; rw [List.length_take]; exact Nat.le_trans (Nat.min_le_right _ _) this
  · have := h.fits; rw [List.length_take]; have h2 : min m l.length ≤ l.length := Nat.min_le_right _ _; exact Nat.le_trans (Nat.mul_le_mul_right _ h2) this
  · rcases h.lie with h0 | ⟨b, o, e, hb, hx⟩
    · exact .inl (by rw [h0]; simp)
    · refine .inr ⟨b, o, e, hb, fun i x hi => hx i x ?_⟩
      rw [List.getElem?_take] at hi
      split at hi
      · exact hi
      · cases hi
theorem Sa.inVals.pre {c : Sa.Cd} {l : List Int} (h : Sa.inVals c l) (m : Nat) : Sa.inVals c (l.take m) := fun x hx => h x (List.mem_of_mem_take hx)
theorem eq_true_of_pos {p : Prop} (h : p) : p = True := propext ⟨fun _ => trivial, fun _ => h⟩
end Go.Proofs.Ytbpdggdpgohilaa
namespace Go.Proofs.Ytbpdggdpgohilaa
open Go.RowKit
set_option linter.unusedVariables false
section
variable {P : Program} {ops : Array Oper} {R : World → World → Prop}
set_option maxHeartbeats 2000000 in
theorem any_of_all (htr : ∀ {w w1 w2 : World}, R w w1 → R w1 w2 → R w w2) (hrf : ∀ w : World, R w w) {n : Nat} {a0 : Act} {W : World} {Q : Exit → Act → World → Prop} {Ψ : Nat → Value → World → Prop} {Z : List PanicEntry → World → Prop} (hZ : ∀ c a w, a.defers = a0.defers → Z c w → Q (.panic c) a w) {l : List Oper} (hl : ops = l.toArray)
    (hst : ∀ i v w w', i < n → Ψ i v w → R w w' → Ψ i v w')
    (hsel : Region.noSelect ops = true) (hn : n = ops.size) (hlex : Region.lexHead .any ops 0 n 0 (lexed ops.size 0) = true)
    (hL : lookG ops n = true) (hD : dstR ops n a0.tmps.size = true)
    (hstep : ∀ i, i < n → ∀ V w', R W w' → (∀ j, (depsOf ops i).contains j = true → Ψ j (V j) w') → stepVX P ops R Z Ψ i (frV ops a0 V i) w')
    (hend : ∀ V w', R W w' → (∀ i, i < n → Ψ i (V i) w') → Q .normal (frV ops a0 V n) w') (f : Nat) :
    ∀ listed a w, left listed n = f → HeadInv .any ops n listed → FrInv ops n a0 Ψ listed a w → R W w → wpAny P .any ops Q f listed a w := by
  have hval : ∀ {listed a w i}, FrInv ops n a0 Ψ listed a w → i < n → listed.getD i false = true → Ψ i (valOf ops a i) w := by
    intro listed a w i inv hi hli
    unfold valOf
    cases hd : dstOf ops i with
    | none => exact inv.non i hi hli hd
    | some d => exact inv.val i d hi hli hd
  induction f with
  | zero =>
    intro listed a w hf hinv inv hg
    have hall := left_zero hf
    have ea : a = frV ops a0 (valOf ops a) n := by
      obtain ⟨tm, df⟩ := a
      have h1 : tm = (frV ops a0 (valOf ops ⟨tm, df⟩) n).tmps := by
        apply Array.ext_getElem?
        intro s
        by_cases hex : ∃ j, j < n ∧ dstOf ops j = some s
        · obtain ⟨j, hj, hd⟩ := hex
          exact (frV_in a0 ⟨tm, df⟩ inv.size n s ⟨j, hj, hd⟩ (dstR_lt hD hj hd)).symm
        · have hno : ∀ j, j < n → dstOf ops j ≠ some s := fun j hj hd => hex ⟨j, hj, hd⟩
          rw [frV_out a0 _ n s hno]
          exact inv.old s fun i hi _ => hno i hi
      have h2 : df = (frV ops a0 (valOf ops ⟨tm, df⟩) n).defers := by rw [frV_defers]; exact inv.defers
      generalize frV ops a0 (valOf ops ⟨tm, df⟩) n = b at *
      obtain ⟨bt, bd⟩ := b
      simp_all
    have hw := hend (valOf ops a) w hg fun i hi => hval inv hi (hall i hi)
    rw [← ea] at hw
    refine ⟨?_, hw⟩
    apply List.eq_nil_iff_forall_not_mem.2
    intro i hi
    obtain ⟨h1, o, ho, _⟩ := mem_ready.1 hi
    have hlt : i < n := by
      rw [hn]
      rcases Nat.lt_or_ge i ops.size with h' | h'
      · exact h'
      · rw [Array.getElem?_eq_none h'] at ho; cases ho
    have h2 := hall i hlt
    have h3 := getD_both h1
    rw [h3] at h2
    cases h2
  | succ f ih =>
    intro listed a w hf hinv inv hg
    obtain ⟨k, hk, hkf, hkall⟩ := left_pos (by rw [hf]; exact Nat.succ_ne_zero f)
    have hkt : listed.getD k true = false := getD_in (by rw [hinv.size]; omega) hkf
    have hkr : k ∈ Region.ready .any ops listed := by
      have h0 := lexHead_at ops.size n 0 (by simpa using hlex) k (Nat.zero_le _) (by omega)
      obtain ⟨_, o, ho, hall⟩ := mem_ready.1 h0
      refine mem_ready.2 ⟨hkt, o, ho, fun e he hb => ?_⟩
      have h1 := hall e he hb
      have h2 : e.on < ops.size := by
        rcases Nat.lt_or_ge e.on (lexed ops.size k).size with h' | h'
        · rw [lexed_size] at h'; exact h'
        · simp [Array.getElem?_eq_none h'] at h1
      rw [lexed_get ops.size k e.on h2] at h1
      exact hkall e.on (by simpa using h1)
    refine ⟨fun h0 => absurd h0 (List.ne_nil_of_mem hkr), fun i hi => ?_⟩
    obtain ⟨hiun, o, ho, hall⟩ := mem_ready.1 hi
    have hin : i < n := by
      rw [hn]
      rcases Nat.lt_or_ge i ops.size with h' | h'
      · exact h'
      · rw [Array.getElem?_eq_none h'] at ho; cases ho
    have hlk := lookG_spec hL hin ho
    have hd : dstOf ops i = o.dst := by unfold dstOf; rw [ho]; rfl
    have S := hstep i hin (valOf ops a) w hg fun j hj => by
      have hj' := List.mem_filter.1 (show j ∈ depsOf ops i by simpa using hj)
      have hlt := List.mem_range.1 hj'.1
      exact hval inv (by omega) (waits_listed hi hj'.2)
    unfold stepVX at S
    simp only [ho] at S
    have hex : execOp a.eval o = execOp (frV ops a0 (valOf ops a) i).eval o := by
      refine execOp_congr o (fun cs b => Region.noSelect_spec hsel i o cs b ho) fun x hx => eval_same fun t ht => ?_
      subst ht
      have htl : t ∈ o.looksAt ops := List.mem_append_left _ (List.mem_filterMap.2 ⟨.tmp t, by simpa using hx, rfl⟩)
      by_cases hexi : ∃ j, j < n ∧ dstOf ops j = some t
      · obtain ⟨j, hj, hdj⟩ := hexi
        obtain ⟨hji, _⟩ := hlk t htl j hj hdj
        exact (frV_in a0 a inv.size i t ⟨j, hji, hdj⟩ (dstR_lt hD hj hdj)).symm
      · have hno : ∀ j, j < n → dstOf ops j ≠ some t := fun j hj hd => hexi ⟨j, hj, hd⟩
        rw [frV_out a0 _ i t fun j hj => hno j (by omega)]
        exact inv.old t fun j hj _ => hno j hj
    have next : ∀ v w', (dstOf ops i = none → v = undef) → R w w' → Ψ i v w' → wpAny P .any ops Q f (listed.setIfInBounds i true) (a.put o.dst v) w' := by
      intro v w' hun hg' hv
      have hlf : left (listed.setIfInBounds i true) n = f := by have := left_set hin hiun; omega
      refine ih _ _ _ hlf (hinv.set hi hin) ?_ (htr hg hg')
      have hset : ∀ j, j ≠ i → (listed.setIfInBounds i true).getD j false = true → listed.getD j false = true := fun j hj h => by rwa [getD_set_ne false (Ne.symm hj)] at h
      refine ⟨(put_size _ _ _).trans inv.size, (put_defers _ _ _).trans inv.defers, fun s hs' => ?_, fun j d hj hjl hjd => ?_, fun j hj hjl hjd => ?_⟩
      · have h1 : dstOf ops i ≠ some s := hs' i hin (by
          have : i < listed.size := by rw [hinv.size]; omega
          simp [this])
        rw [put_other _ _ (by rw [← hd]; exact h1)]
        exact inv.old s fun j hj hjl => hs' j hj (getD_set_true hjl)
      · by_cases hji : j = i
        · subst hji
          have e : o.dst = some d := by rw [← hd]; exact hjd
          rw [e]
          have hlt : d < a.tmps.size := by rw [inv.size]; exact dstR_lt hD hin hjd
          have := put_same a d v hlt
          rw [Array.getD_eq_getD_getElem?, this]
          exact hv
        · have hne : o.dst ≠ some d := by rw [← hd]; exact dstR_ne hD hj hin hji hjd
          have := put_other a v hne
          rw [Array.getD_eq_getD_getElem?, this, ← Array.getD_eq_getD_getElem?]
          exact hst _ _ _ _ hj (inv.val j d hj (hset j hji hjl) hjd) hg'
      · by_cases hji : j = i
        · subst hji
          rw [← hun hjd]; exact hv
        · exact hst _ _ _ _ hj (inv.non j hj (hset j hji hjl) hjd) hg'
    have hwv : Region.wanted o (yielded ops a.tmps) = Region.wanted o (yielded ops (frV ops a0 (valOf ops a) i).tmps) := by
      unfold Region.wanted
      cases hgd : o.guard with
      | none => rfl
      | some x =>
        obtain ⟨g, want⟩ := x
        have hy : yielded ops a.tmps g = yielded ops (frV ops a0 (valOf ops a) i).tmps g := by
          unfold yielded
          cases hdg : (ops[g]?).bind (·.dst) with
          | none => rfl
          | some t =>
            have htl : t ∈ o.looksAt ops := by
              unfold Oper.looksAt
              rw [hgd]
              exact List.mem_append_right _ (by simp only [hdg]; simp)
            have he : a.tmps[t]? = (frV ops a0 (valOf ops a) i).tmps[t]? := by
              by_cases hexi : ∃ j, j < n ∧ dstOf ops j = some t
              · obtain ⟨j, hj, hdj⟩ := hexi
                obtain ⟨hji, _⟩ := hlk t htl j hj hdj
                exact (frV_in a0 a inv.size i t ⟨j, hji, hdj⟩ (dstR_lt hD hj hdj)).symm
              · have hno : ∀ j, j < n → dstOf ops j ≠ some t := fun j hj hd => hexi ⟨j, hj, hd⟩
                rw [frV_out a0 _ i t fun j hj => hno j (by omega)]
                exact inv.old t fun j hj _ => hno j hj
            simp only [Option.bind_some, he]
        simp only [hy]
    unfold wpOp
    simp only [ho]
    rw [hwv]
    by_cases hwa : Region.wanted o (yielded ops (frV ops a0 (valOf ops a) i).tmps) = true
    case neg =>
      rw [if_neg hwa]
      rw [if_neg hwa] at S
      exact next undef w (fun _ => rfl) (hrf w) S
    rw [if_pos hwa]
    rw [if_pos hwa] at S
    refine .inl ?_
    unfold Oper.wp
    rw [hex]
    generalize (execOp (frV ops a0 (valOf ops a) i).eval o).run P w = r at S
    match r, S with
    | .ok (.value v) w', S => exact next v w' (fun e => by rw [e] at S; cases S.1) S.2.1 S.2.2
    | .ok .skip w', S => exact next undef w' (fun _ => rfl) S.1 S.2
    | .ok (.enter fn args) w', S =>
      rw [Oper.upon_enter]
      obtain ⟨hS, S⟩ := S
      refine Calls.mono S ?_
      rintro e w'' (⟨v, rfl, h1, h2⟩ | ⟨c, rfl, hz⟩)
      · exact next v w'' (fun e => by rw [e] at hS; cases hS) h1 h2
      · exact hZ c a w'' inv.defers hz
    | .halt (.panic v) w', S => exact hZ _ a w' inv.defers S
theorem region_invA (htr : ∀ {w w1 w2 : World}, R w w1 → R w1 w2 → R w w2) (hrf : ∀ w : World, R w w) {id : Nat} {Q : Exit → Act → World → Prop} {a : Act} {w : World} {l : List Oper} (n : Nat) (Ψ : Nat → Value → World → Prop) {Z : List PanicEntry → World → Prop} (hZ : ∀ c a' w, a'.defers = a.defers → Z c w → Q (.panic c) a' w)
    (hm : P.follows .mixedOrders = true) (hsel : Region.noSelect l.toArray = true) (hn : n = l.toArray.size) (hlex : Region.lexHead .any l.toArray 0 n 0 (lexed l.toArray.size 0) = true) (hL : lookG l.toArray n = true) (hD : dstR l.toArray n a.tmps.size = true)
    (hst : ∀ i v w w', i < n → Ψ i v w → R w w' → Ψ i v w')
    (hstep : ∀ i, i < n → ∀ V w', R w.drew w' → (∀ j, (depsOf l.toArray i).contains j = true → Ψ j (V j) w') → stepVX P l.toArray R Z Ψ i (frV l.toArray a V i) w')
    (hend : ∀ V w', R w.drew w' → (∀ i, i < n → Ψ i (V i) w') → Q .normal (frV l.toArray a V n) w') : (Code.region id l.toArray true).wp P Q a w := by
  have inv0 : HeadInv .any l.toArray n (Array.replicate l.toArray.size false) :=
    ⟨by simp, fun j oj _ hl => (by rw [getD_replicate_false] at hl; cases hl), fun t _ ht => getD_in (by simpa using ht) (getD_replicate_false _ _)⟩
  have hl0 : left (Array.replicate l.toArray.size false) n = n := by
    unfold left
    rw [List.filter_eq_self.2 fun i _ => by rw [getD_replicate_false]; rfl]
    simp
  have fr0 : FrInv l.toArray n a Ψ (Array.replicate l.toArray.size false) a w.drew :=
    ⟨rfl, rfl, fun _ _ => rfl, fun i d _ h => (by rw [getD_replicate_false] at h; cases h), fun i _ h => (by rw [getD_replicate_false] at h; cases h)⟩
  have T := any_of_all (R := R) htr hrf (P := P) (Q := Q) (ops := l.toArray) (n := n) (a0 := a) (W := w.drew) (Ψ := Ψ) hZ rfl hst hsel hn (by simpa [lexed] using hlex) hL hD hstep hend n _ a w.drew hl0 inv0 fr0 (hrf _)
  rw [hn] at T
  exact wp_region_any hm T
set_option maxHeartbeats 2000000 in
/-- the whole of it in any order -/
theorem region_la (K : World → Prop) {id : Nat} {Q : Exit → Act → World → Prop} {a : Act} {w : World} {l : List Oper} (n : Nat) (hm : P.follows .mixedOrders = true) (hB : (Region.noSelect l.toArray && decide (n = l.toArray.size) && Region.lexHead .any l.toArray 0 n 0 (lexed l.toArray.size 0)) = true) (hL : lookG l.toArray n = true) (hD : dstR l.toArray n a.tmps.size = true)
    (hK : K w.drew) (h : lxs P l.toArray K (fun c w => ∀ a', a'.defers = a.defers → Q (.panic c) a' w) (fun A => ∀ w', K w' → Q .normal A w') [] 0 l a) : (Code.region id l.toArray true).wp P Q a w := by
  simp only [Bool.and_eq_true, decide_eq_true_eq] at hB
  obtain ⟨⟨hsel, hnn⟩, hlex⟩ := hB
  have hn : n = l.length := by simpa using hnn
  obtain ⟨outs, -, hst, hE⟩ := lxs_outs (ops := l.toArray) (P := P) (a := a) (fun _ => some undef) rfl (by simp) h
  simp only [Nat.zero_add] at hst hE
  rw [← hn] at hE
  refine region_invA (R := fun w w' => K w → K w') (fun h1 h2 h3 => h2 (h1 h3)) (fun _ h => h) n (fun i v _ => outs i = some v) (Z := fun c w => ∀ a', a'.defers = a.defers → Q (.panic c) a' w) (fun c a' w hd h => h a' hd) hm hsel hnn hlex hL hD (fun i v w w' _ h _ => h) (fun i hi V w' g hV => ?_) fun V w' g hV => ?_
  · have ho : l[i]? = some l[i] := by rw [List.getElem?_eq_getElem (by omega)]
    have ho' : l.toArray[i]? = some l[i] := by rw [List.getElem?_toArray, List.getElem?_eq_getElem (by omega)]
    unfold stepVX
    rw [ho']
    have hlk := lookG_spec hL hi ho'
    rcases hst i _ ho with ⟨_, j, hj, hc⟩ | hs
    · have := hV j hc
      rw [hj] at this
      cases this
    · have hs := hs w' (g hK)
      have same : ∀ t, t ∈ (l[i]).looksAt l.toArray → (frV l.toArray a V i).tmps[t]? = (frV l.toArray a (fun j => (outs j).getD undef) i).tmps[t]? := fun t ht => frV_same fun j hj hd => by
        have h9 := (hlk t ht j (by omega) hd).2
        have h8 := hV j (by
          have : j ∈ depsOf l.toArray i := List.mem_filter.2 ⟨List.mem_range.2 hj, h9⟩
          simpa using this)
        simp only [h8]
        rfl
      have hex : execOp (frV l.toArray a V i).eval l[i] = execOp (frV l.toArray a (fun j => (outs j).getD undef) i).eval l[i] := by
        refine execOp_congr _ (fun cs b => Region.noSelect_spec hsel i _ cs b ho') fun x hx => eval_same fun t ht => ?_
        subst ht
        exact same t (List.mem_append_left _ (List.mem_filterMap.2 ⟨.tmp t, by simpa using hx, rfl⟩))
      have hwn : Region.wanted l[i] (yielded l.toArray (frV l.toArray a V i).tmps) = Region.wanted l[i] (yielded l.toArray (frV l.toArray a (fun j => (outs j).getD undef) i).tmps) := by
        unfold Region.wanted
        cases hgd : (l[i]).guard with
        | none => rfl
        | some x =>
          obtain ⟨g, want⟩ := x
          have hy : yielded l.toArray (frV l.toArray a V i).tmps g = yielded l.toArray (frV l.toArray a (fun j => (outs j).getD undef) i).tmps g := by
            unfold yielded
            cases hdg : (l.toArray[g]?).bind (·.dst) with
            | none => rfl
            | some t =>
              have he := same t (by
                unfold Oper.looksAt
                rw [hgd]
                exact List.mem_append_right _ (by simp only [hdg]; simp))
              simp only [Option.bind_some, he]
          simp only [hy]
      show (if Region.wanted l[i] (yielded l.toArray (frV l.toArray a V i).tmps) = true then _ else _)
      rw [hwn, hex]
      unfold lxStep at hs
      by_cases hwa : Region.wanted l[i] (yielded l.toArray (frV l.toArray a (fun j => (outs j).getD undef) i).tmps) = true
      · rw [if_pos hwa] at hs ⊢
        generalize (execOp (frV l.toArray a (fun j => (outs j).getD undef) i).eval l[i]).run P w' = r at hs
        match r, hs with
        | .ok (.value v) w2, hs => exact ⟨hs.1, fun _ => hs.2.1, hs.2.2⟩
        | .ok .skip w2, hs => exact ⟨fun _ => hs.1, hs.2⟩
        | .ok (.enter fn args) w2, hs =>
          refine ⟨hs.1, hs.2.mono ?_⟩
          rintro e w3 (⟨x, h1, h2, h3⟩ | h1)
          · exact .inl ⟨x, h1, fun _ => h2, h3⟩
          · exact .inr h1
        | .halt (.panic v) w2, hs => exact hs
      · rw [if_neg hwa] at hs ⊢
        exact hs
  · have hall : ∀ j, j < n → outs j ≠ none := fun j hj => by rw [hV j hj]; simp
    have h9 := hE hall w' (g hK)
    rw [frV_congr (V' := fun j => (outs j).getD undef) fun j hj => by simp only [hV j hj]; rfl]
    exact h9
theorem region_lga {W1 : World} {id : Nat} {Q : Exit → Act → World → Prop} {a : Act} {w : World} {l : List Oper} (n : Nat) (hg : W1.grownBy w none) (hm : P.follows .mixedOrders = true) (hB : (Region.noSelect l.toArray && decide (n = l.toArray.size) && Region.lexHead .any l.toArray 0 n 0 (lexed l.toArray.size 0)) = true) (hL : lookG l.toArray n = true) (hD : dstR l.toArray n a.tmps.size = true)
    (h : lxs P l.toArray (fun W => W1.grownBy W none) (fun c w => ∀ a', a'.defers = a.defers → Q (.panic c) a' w) (fun A => ∀ w', W1.grownBy w' none → wpList P l.toArray Q [] A w') [] 0 l a) : (Code.region id l.toArray true).wp P Q a w :=
  region_la (fun W => W1.grownBy W none) n hm hB hL hD (grown_drew hg) h
end
end Go.Proofs.Ytbpdggdpgohilaa
namespace Go.Proofs.Ytbpdggdpgohilaa
open Go.RowKit
set_option linter.unusedVariables false
set_option maxRecDepth 100000
set_option maxHeartbeats 8000000
theorem Sa.hasArgs_len {u : Sa.Un} {c : Sa.Cd} {s : Sa.Ls} {n : Nat} {v : Sa.Vl} (h : Sa.hasArgs u c s n v = true) : ((v.op = 3 ∨ v.op = 5 ∨ v.op = 12 ∨ v.op = 15) → v.args.length = 1) ∧ ((v.op = 4 ∨ v.op = 8 ∨ v.op = 11 ∨ v.op = 13) → v.args.length = 2) ∧ ((v.op = 7 ∨ v.op = 10) → v.args.length = 3) ∧ (v.op = 14 → Sa.isNum u.codes.length v.n = true ∧ v.args.length = (u.codes.getD v.n.toNat Sa.cd0).params.length + 1) ∧ (v.op = 6 → v.args.length = (c.b (s.home n)).preds.length) := by
  unfold Sa.hasArgs at h
  simp only at h
  refine ⟨fun e => ?_, fun e => ?_, fun e => ?_, fun e => ?_, fun e => ?_⟩
  · rw [if_neg (by omega), if_pos (by omega)] at h; exact beq_iff_eq.1 h
  · rw [if_neg (by omega), if_neg (by omega), if_pos (by omega)] at h; exact beq_iff_eq.1 h
  · rw [if_neg (by omega), if_neg (by omega), if_neg (by omega), if_pos (by omega)] at h; exact beq_iff_eq.1 h
  · rw [if_neg (by omega), if_neg (by omega), if_neg (by omega), if_neg (by omega), if_neg (by omega), if_neg (by omega), if_pos (by omega), Bool.and_eq_true] at h; exact ⟨h.1, beq_iff_eq.1 h.2⟩
  · rw [if_neg (by omega), if_neg (by omega), if_neg (by omega), if_neg (by omega), if_neg (by omega), if_pos (by omega)] at h; exact beq_iff_eq.1 h
end Go.Proofs.Ytbpdggdpgohilaa
namespace Go.Proofs.Ytbpdggdpgohilaa
open Go.RowKit
set_option linter.unusedVariables false
set_option maxRecDepth 100000
set_option maxHeartbeats 4000000
theorem saMul64 (c : Nat) (hc : c < 4294967296) (w : World) : Calls Try.prog 53 #[.int .u64 1, .int .u64 (c : Int)] w fun r w' => r = .returned (.tuple #[.int .u64 0, .int .u64 (c : Int)]) ∧ w' = w := by
  have e1 : bits .and .u64 (c : Int) 4294967295 = (c : Int) := by
    have h := bits_and_u64_nat c 4294967295 (by omega) (by omega)
    have e : c &&& 4294967295 = c % 4294967296 := Nat.and_two_pow_sub_one_eq_mod c 32
    rw [e, Nat.mod_eq_of_lt hc] at h
    exact h
  have e2 : (c : Int) / 4294967296 = 0 := by omega
  have e3 : bits .and .u64 1 4294967295 = 1 := by kernel_rfl
  have e4 : IntKind.u64.wrap (c : Int) = (c : Int) := by rw [IntKind.wrap_u64]; omega
  have e5 : bits .and .u64 0 4294967295 = 0 := by kernel_rfl
  have e6 : IntKind.u64.wrap 0 = 0 := by kernel_rfl
  go_enter Try.func53, Try.ntmps53
  go_wp2

  go_ret2
  exact ⟨rfl, rfl⟩
theorem saMul (c : Nat) (hc : c < 4294967296) (w : World) : Calls Try.prog 44 #[.int .u64 1, .int .u64 (c : Int)] w fun r w' => r = .returned (.tuple #[.int .u64 0, .int .u64 (c : Int)]) ∧ w' = w := by
  have HM := saMul64 c hc w
  go_enter Try.func44, Try.ntmps44
  go_wp2_with (go_at_call 53; refine HM.mono ?_; rintro e w' ⟨rfl, hw⟩; rw [hw])
  go_ret2
  exact ⟨rfl, rfl⟩
theorem OwnN.bk {w : World} {base n T : Nat} {g : Nat → Int} (h : OwnN w base (.slice (some ⟨T, 0, none⟩) n n) n g) : Bk w T 3 ((List.range n).map fun i => .int .i64 (g i)) := by
  rcases h.2 with ⟨e, _⟩ | ⟨q, cap, cur, e, _, e3, _, _, e6, e7⟩
  · cases e
  · injection e with e1 e2 e3'
    injection e1 with e1
    injection e1 with e1
    subst e1
    subst e3'
    have : cur.toList = (List.range n).map fun i => Value.int .i64 (g i) := by
      rw [← e7, List.take_of_length_le (by simp; omega)]
    show w.heap[T]? = _
    rw [← this, e3]
theorem OwnN.of_bk {w : World} {base n T : Nat} {g : Nat → Int} (hb : base ≤ T) (hn : n ≤ maxLen) (h : Bk w T 3 ((List.range n).map fun i => .int .i64 (g i))) : OwnN w base (.slice (some ⟨T, 0, none⟩) n n) n g :=
  ⟨by simp, .inr ⟨T, n, _, rfl, hb, h, Nat.le_refl _, hn, by simp, by simp; exact List.take_of_length_le (by simp)⟩⟩
theorem splice_fill (n k m : Nat) (x : Int) (h : k + m ≤ n) : splice ((List.range n).map fun i => Value.int .i64 (if i < k then x else 0)) k (List.replicate m (.int .i64 x)) = (List.range n).map fun i => Value.int .i64 (if i < k + m then x else 0) := by
  have e1 : ((List.range n).map fun i => Value.int .i64 (if i < k then x else 0)).take k = ((List.range n).map fun i => Value.int .i64 (if i < k + m then x else 0)).take k := by
    rw [← List.map_take, ← List.map_take]
    refine List.map_congr_left fun i hi => ?_
    have : i < k := by have := List.mem_take_iff_getElem.1 hi; obtain ⟨j, hj, e⟩ := this; simp at e; simp at hj; omega
    simp [this, show i < k + m by omega]
  refine List.ext_getElem? fun i => ?_
  unfold splice
  rw [e1]
  simp only [List.length_replicate]
  by_cases h1 : i < k
  · rw [List.getElem?_append_left (by simp; omega), List.getElem?_take_of_lt h1]
  · rw [List.getElem?_append_right (by simp; omega)]
    rw [show (((List.range n).map fun i => Value.int .i64 (if i < k + m then x else 0)).take k).length = k by simp; omega]
    by_cases h2 : i < k + m
    · rw [List.getElem?_append_left (by simp; omega)]
      rw [List.getElem?_replicate]
      simp [show i - k < m by omega, h2, show i < n by omega]
    · rw [List.getElem?_append_right (by simp; omega), List.length_replicate, List.getElem?_drop, show k + m + (i - k - m) = i by omega]
      by_cases h3 : i < n
      · simp [h1, h2, h3]
      · simp [h3]
theorem below_grown {w w1 w2 : World} {T : Nat} (g : w.grownBy w1 none) (hT : T = w.heap.size) (hb : Below T w1 w2) : w.grownBy w2 none :=
  ⟨hb.os.trans g.os, hb.tape.trans g.tape, hb.output.trans g.output, Nat.le_trans g.size hb.size, fun k hk _ => (hb.block k (by omega)).trans (g.block k hk (by simp))⟩
theorem saRep_any (n : Nat) (hn : n ≤ 16384) {w : World} {sb : Nat} {x : Int} {sc : Nat} (hx : w.cell? ⟨sb, 0, none⟩ = some (.int .i64 x)) (hs1 : 1 ≤ sc) (hs2 : sc ≤ maxLen) : Calls Try.prog 31 #[.slice (some ⟨sb, 0, none⟩) 1 sc, .int .i64 (n : Int)] w fun r w' => ∃ T, r = .returned (.slice (some ⟨T, 0, none⟩) n n) ∧ OwnN w' w.heap.size (.slice (some ⟨T, 0, none⟩) n n) n (fun _ => x) ∧ w.grownBy w' none := by
  have HMu : Hid (∀ W, Calls Try.prog 44 #[.int .u64 1, .int .u64 (n : Int)] W fun r w' => r = .returned (.tuple #[.int .u64 0, .int .u64 (n : Int)]) ∧ w' = W) := fun W => saMul n (by omega) W
  obtain ⟨w1, hmk, ho1, hg1⟩ := run_make_n w n (by omega)
  obtain ⟨T, hT⟩ : ∃ T, T = w.heap.size := ⟨_, rfl⟩
  rw [← hT] at hmk ho1 ⊢
  have HB1 : Hid (w1.heap[T]? = some (.cells ((List.range n).map fun i => Value.int .i64 (if i < 0 then x else 0)).toArray 3 (0, 0))) := by
    have := ho1.bk
    show _ = _
    simpa [Bk] using this
  have HG1 : Hid (w.grownBy w1 none) := hg1
  have HX : Hid (w.cell? ⟨sb, 0, none⟩ = some (.int .i64 x)) := hx
  have HT : Hid (T = w.heap.size) := hT
  obtain ⟨cs, hcs⟩ : ∃ cs, cs = List.replicate (Nat.min 1 n) (Value.int .i64 x) := ⟨_, rfl⟩
  have HCS : Hid (cs = List.replicate (Nat.min 1 n) (Value.int .i64 x)) := hcs
  have HCL : Hid (cs.length = Nat.min 1 n) := by show _ = _; rw [hcs]; simp
  obtain ⟨CU, hCU⟩ : ∃ CU, CU = (List.range n).map fun i => Value.int .i64 (if i < 0 then x else 0) := ⟨_, rfl⟩
  rw [← hCU] at HB1
  have HCU : Hid (CU = (List.range n).map fun i => Value.int .i64 (if i < 0 then x else 0)) := hCU
  have HSr : Hid (∀ (j : Nat) (v : Value), cs[j]? = some v → w1.cell? (Addr.add ⟨sb, 0, none⟩ j) = some v) := fun j v hj => by
    rw [hcs] at hj
    obtain ⟨h1, h2⟩ := List.getElem?_eq_some_iff.1 hj
    rw [List.length_replicate] at h1
    rw [List.getElem_replicate] at h2
    have h9 : Nat.min 1 n ≤ 1 := Nat.min_le_left 1 n
    obtain rfl : j = 0 := by omega
    subst h2
    exact HG1.out.cell HX.out (by simp)
  have HFi : Hid (0 + cs.length ≤ CU.length) := by
    show 0 + cs.length ≤ CU.length
    have h9 : Nat.min 1 n ≤ n := Nat.min_le_right 1 n
    rw [hcs, hCU, List.length_replicate, List.length_map, List.length_range]
    omega
  have HOn : Hid (∀ v, v ∈ cs → v.oneCell' = true) := fun v hv => by rw [hcs] at hv; rw [(List.mem_replicate.1 hv).2]; first | rfl | done
  clear hg1 hx hT ho1 hcs hCU
  go_enter Try.func31, Try.ntmps31
  go_wp2_with (first
    | (go_at_call 44; refine (HMu.out _).mono ?_; rintro e w' ⟨rfl, hw⟩; rw [hw]; clear hw)
    | (refine wpList_copy_splice rfl (.tmp 31) (.tmp 32) 24 24 rfl 3 Try.underlying24 (by kernel_rfl) _ _ _ _ _ _ rfl rfl T 0 CU 3 HB1.out cs HCL.out (fun _ => ⟨rfl, _, rfl, HSr.out⟩) HFi.out HOn.out T w1 (Below.refl _ _) (Nat.le_refl _) ?_; intro w2 HB2 hb2; simp only [HCL.out]))
  have HB3 : Hid (w2.heap[T]? = some (.cells ((List.range n).map fun i => Value.int .i64 (if i < Nat.min 1 n then x else 0)).toArray 3 (0, 0))) := by
    have h9 := HB2.out
    rw [HCU.out, HCS.out, splice_fill n 0 (Nat.min 1 n) x (by have h9 : Nat.min 1 n ≤ n := Nat.min_le_right 1 n; omega), Nat.zero_add] at h9
    exact h9
  have HG2 : Hid (w.grownBy w2 none) := below_grown HG1.out HT.out hb2
  clear HB2 hb2 HCU HCS HCL HB1 hmk
  go_loopw [8] (fun nv wr => ∃ k : Nat, nv = .int .i64 k ∧ k ≤ n ∧ (0 < n → 0 < k) ∧ wr.heap[T]? = some (.cells ((List.range n).map fun i => Value.int .i64 (if i < k then x else 0)).toArray 3 (0, 0)) ∧ w.grownBy wr none) (fun nv _ => n - (intOf nv).toNat)
  case atStart => exact ⟨Nat.min 1 n, rfl, Nat.min_le_right 1 n, fun h => by show 0 < min _ _; rw [Nat.min_def]; split <;> omega, HB3.out, HG2.out⟩
  case round =>
    obtain ⟨k, rfl, hk, hk0, hb, hg⟩ := hrel
    have HG : Hid (w.grownBy wr none) := hg
    have HBr : Hid (wr.heap[T]? = some (.cells ((List.range n).map fun i => Value.int .i64 (if i < k then x else 0)).toArray 3 (0, 0))) := hb
    clear hb hg HB3 HG2
    by_cases hkn : k < n
    case neg =>
      obtain rfl : k = n := by omega
      go_wp2
      go_ret
      refine ⟨T, rfl, OwnN.of_bk (Nat.le_refl _) (by unfold maxLen; omega) ?_, HG.out⟩
      have h9 := HBr.out
      show wr.heap[T]? = _
      rw [h9]
      congr 2
      refine congrArg List.toArray (List.map_congr_left fun i hi => ?_)
      rw [if_pos (List.mem_range.1 hi)]
    have hkn' : (k : Int) < n := by omega
    have hk1 : 0 < k := hk0 (by omega)
    obtain ⟨cs, hcs⟩ : ∃ cs, cs = List.replicate (Nat.min k (n - k)) (Value.int .i64 x) := ⟨_, rfl⟩
    have HCS : Hid (cs = List.replicate (Nat.min k (n - k)) (Value.int .i64 x)) := hcs
    have HCL : Hid (cs.length = Nat.min k (n - k)) := by show _ = _; rw [hcs]; simp
    have HD : Hid (wr.grownBy wr.drew none) := grown_drew (World.grownBy.refl _ _)
    have HBr : Hid (wr.drew.heap[T]? = some (.cells ((List.range n).map fun i => Value.int .i64 (if i < k then x else 0)).toArray 3 (0, 0))) := by
      have h9 := HBr.out
      have hlt : T < wr.heap.size := (Array.getElem?_eq_some_iff.1 h9).1
      exact (HD.out.block T hlt (by simp)).trans h9
    have hnk : ¬ n = k := by omega
    have HCJ : Hid (∀ j, j < Nat.min k (n - k) → wr.drew.cell? ⟨T, j, none⟩ = some (.int .i64 x)) := fun j hj => by
      have hjk : j < k := Nat.lt_of_lt_of_le hj (Nat.min_le_left _ _)
      have h9 := HBr.out
      simp [World.cell?, h9, show j < n by omega, hjk]
    obtain ⟨CU, hCU⟩ : ∃ CU, CU = (List.range n).map fun i => Value.int .i64 (if i < k then x else 0) := ⟨_, rfl⟩
    have HBk : Hid (wr.drew.heap[T]? = some (.cells CU.toArray 3 (0, 0))) := by rw [hCU]; exact HBr.out
    have HCU : Hid (CU = (List.range n).map fun i => Value.int .i64 (if i < k then x else 0)) := hCU
    have hml : k + Nat.min k (n - k) ≤ n := by have h9 : Nat.min k (n - k) ≤ n - k := Nat.min_le_right k (n - k); omega
    have hm0 : 0 < Nat.min k (n - k) := by show 0 < min _ _; rw [Nat.min_def]; split <;> omega
    have HSr : Hid (∀ (j : Nat) (v : Value), cs[j]? = some v → wr.drew.cell? (Addr.add ⟨T, 0, none⟩ j) = some v) := fun j v hj => by
      rw [hcs] at hj
      obtain ⟨h1, h2⟩ := List.getElem?_eq_some_iff.1 hj
      rw [List.length_replicate] at h1
      rw [List.getElem_replicate] at h2
      subst h2
      have h9 := HCJ.out j h1
      by_cases e : j = 0
      · subst e; exact h9
      · simpa [Addr.add, e] using h9
    have HFi : Hid (k + cs.length ≤ CU.length) := by
      show k + cs.length ≤ CU.length
      rw [hcs, hCU, List.length_replicate, List.length_map, List.length_range]
      omega
    have HOn : Hid (∀ v, v ∈ cs → v.oneCell' = true) := fun v hv => by rw [hcs] at hv; rw [(List.mem_replicate.1 hv).2]; first | rfl | done
    clear hcs hCU
    go_wp2_with fail
    go_region_law (refine step_copy_splice (o := { dst := some 45, op := _, type := _, pos := _, after := _, guard := _ }) rfl (.tmp 41) (.tmp 44) 24 24 ?h1 3 Try.underlying24 ?h2 (some ⟨T, k, none⟩) (some ⟨T, 0, none⟩) (n - k) (n - k) k n ?h3 ?h4 T k CU 3 HBk.out cs HCL.out (fun _ => ⟨rfl, _, rfl, HSr.out⟩) HFi.out HOn.out T wr.drew (Below.refl _ _) (Nat.le_refl _) ?_; (case h1 => rfl); (case h2 => kernel_rfl); (case h3 => simp [go_sem]; done); (case h4 => simp [go_sem]; done); intro w4 hg4 hb4)
    have HB3 : Hid (w4.heap[T]? = some (.cells ((List.range n).map fun i => Value.int .i64 (if i < k + Nat.min k (n - k) then x else 0)).toArray 3 (0, 0))) := by
      have h9 := hg4.out
      rw [HCU.out, HCS.out, splice_fill n k (Nat.min k (n - k)) x hml] at h9
      exact h9
    have HG4 : Hid (w.grownBy w4 none) := below_grown (grown_trans HG.out HD.out) HT.out hb4
    rw [HCL.out]
    clear hg4 hb4 HBk HCS HCU HSr HFi HOn HCL HCJ HBr HD
    have hw9 : IntKind.i64.wrap ((k : Int) + (Nat.min k (n - k) : Nat)) = ((k + Nat.min k (n - k) : Nat) : Int) := by rw [IntKind.wrap_i64]; omega
    go_simp
    go_roundw
    case rel => exact ⟨_, _, _, _, _, _, _, _, _, _, _, _, _, _, ⟨k + Nat.min k (n - k), by rw [Int.natCast_add], hml, fun _ => by omega, HB3.out, HG4.out⟩, rfl⟩
    case measure => simp [intOf]; omega
end Go.Proofs.Ytbpdggdpgohilaa
namespace Go.Proofs.Ytbpdggdpgohilaa
open Go.RowKit
set_option linter.unusedVariables false
set_option maxRecDepth 100000
set_option maxHeartbeats 8000000
/-- numbers made in a walk -/
theorem wp_mkn {ops : Array Oper} {rest : List Oper} {o : Oper} {a : Act} {Q : Exit → Act → World → Prop} {W : World} (hg : o.guard = none) (l c : Operand) (hop : o.op = Op.makeSlice 24 l c) (n : Nat) (hn : (n : Int) ≤ 8796093022208) (hl : a.eval l = .int .i64 n) (hc : a.eval c = .int .i64 n)
    (h : ∀ w1, OwnN w1 W.heap.size (.slice (some ⟨W.heap.size, 0, none⟩) n n) n (fun _ => 0) → W.grownBy w1 none → wpList Try.prog ops Q rest (a.put o.dst (.slice (some ⟨W.heap.size, 0, none⟩) n n)) w1) : wpList Try.prog ops Q (o :: rest) a W := by
  refine wpList_plain hg fun K hK' => ?_
  obtain ⟨w', hrun, r1, r2⟩ := run_make_n W n hn
  unfold Oper.wp
  simp [execOp, hop, hl, hc, hrun, Result.andThen]
  exact hK' _ _ (h w' r1 r2)
theorem OwnN.keptS {w w' : World} {base n : Nat} {v : Value} {g : Nat → Int} {row : Option Nat} (h : OwnN w base v n g) (hg : w.grownBy w' row) (hne : v.ownBlock = none ∨ v.ownBlock ≠ row) : OwnN w' base v n g := World.ownsRow.kept h hg hne
/-- where lists lie -/
def RdA.ls (A : RdA) (n H S : Nat) : RdA := { A with hm := .slice (some ⟨H, 0, none⟩) n n, sp := .slice (some ⟨S, 0, none⟩) n n }
theorem Ch.newL {w w1 w2 : World} {l m : List Nat} (h1 : Ch w w1 l) (h2 : Ch w1 w2 m) (hm : ∀ k, k ∈ m → w.heap.size ≤ k) : Ch w w2 l :=
  ⟨h2.os.trans h1.os, h2.tape.trans h1.tape, h2.output.trans h1.output, Nat.le_trans h1.size h2.size, fun k hk hl => (h2.block k (Nat.lt_of_lt_of_le hk h1.size) (fun hx => by have := hm k hx; omega)).trans (h1.block k hk hl)⟩
theorem Sa.lsAll_step {c : Sa.Cd} {k : Nat} {s : Sa.Ls} (hk : k < c.blocks.length) : Sa.lsAll c (c.blocks.drop k) k s = (if (Sa.lsIn c k (c.blocks[k]).list 0 (k != 0) s).1 then Sa.lsAll c (c.blocks.drop (k + 1)) (k + 1) (Sa.lsIn c k (c.blocks[k]).list 0 (k != 0) s).2 else (false, s)) := by
  rw [List.drop_eq_getElem_cons hk]
  rfl
theorem Sa.lsIn_step {c : Sa.Cd} {b i : Nat} {l : List Int} {ph : Bool} {s : Sa.Ls} (hi : i < l.length) : Sa.lsIn c b (l.drop i) i ph s = (if (Sa.isVal c l[i] && s.home (l[i]).toNat == -1) && (ph || (c.v l[i]).op != 6) then Sa.lsIn c b (l.drop (i + 1)) (i + 1) ((c.v l[i]).op == 6) (s.put (l[i]).toNat b i) else (false, s)) := by
  rw [List.drop_eq_getElem_cons hi]
  rfl
end Go.Proofs.Ytbpdggdpgohilaa
