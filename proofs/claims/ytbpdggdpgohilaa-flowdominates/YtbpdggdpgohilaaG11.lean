/- Contracts and plain facts that the walks share. -/
import Derived.Test.YtbpdggdpgohilaaG5
import Derived.Test.YtbpdggdpgohilaaG10
namespace Go.Proofs.Ytbpdggdpgohilaa
open Go.RowKit
set_option linter.unusedVariables false
section
variable {P : Program} {ops : Array Oper}
/-- what an operation's step must show -/
def stepFG (P : Program) (o : Oper) (T : World → World → Prop) (Φ Γ : (Nat → Value) → World → Prop) (V : Nat → Value) (i : Nat) (a : Act) (w : World) : Prop :=
  o.guard = none ∧ match (execOp a.eval o).run P w with
    | .ok (.value v) w' => o.dst.isSome = true ∧ T w w' ∧ Φ (upV V i v) w' ∧ Γ (upV V i v) w'
    | .ok .skip w' => T w w' ∧ Φ (upV V i undef) w' ∧ Γ (upV V i undef) w'
    | _ => False
def stepFLG (P : Program) (ops : Array Oper) (T : World → World → Prop) (Φ Γ : (Nat → Value) → World → Prop) (V : Nat → Value) (i : Nat) (a : Act) (w : World) : Prop :=
  match ops[i]? with
  | none => False
  | some o => stepFG P o T Φ Γ V i a w
structure FrLG (ops : Array Oper) (a0 : Act) (Φ : Nat → (Nat → Value) → World → Prop) (Γ : (Nat → Value) → World → Prop) (listed : Array Bool) (a : Act) (w : World) : Prop where
  size : a.tmps.size = a0.tmps.size
  defers : a.defers = a0.defers
  old : ∀ s, (∀ i, i < ops.size → listed.getD i false = true → dstOf ops i ≠ some s) → a.tmps[s]? = a0.tmps[s]?
  all : ∀ i, i < ops.size → listed.getD i false = true → Φ i (valOf ops a) w
  g : Γ (valOf ops a) w
set_option maxHeartbeats 2000000 in
theorem any_of_lfG {a0 : Act} {Q : Exit → Act → World → Prop} {K : Nat → World → Prop} {T : Nat → World → World → Prop} {Φ : Nat → (Nat → Value) → World → Prop} {Γ : (Nat → Value) → World → Prop}
    (hcong : ∀ i V V' w, i < ops.size → V i = V' i → (∀ j, (depsOf ops i).contains j = true → V j = V' j) → Φ i V w → Φ i V' w)
    (hΓc : ∀ V V' w, (∀ j, j < ops.size → V j = V' j) → Γ V w → Γ V' w)
    (hKT : ∀ i j w w', i < ops.size → j < ops.size → j ≠ i → (depsOf ops i).contains j = false → T i w w' → K j w → K j w')
    (hΦT : ∀ i j V w w', i < ops.size → j < ops.size → j ≠ i → (depsOf ops j).contains i = false → T i w w' → Φ j V w → Φ j V w')
    (hsel : Region.noSelect ops = true) (hlex : lexG ops = true) (hL : lookG ops ops.size = true) (hD : dstR ops ops.size a0.tmps.size = true)
    (hstep : ∀ i, i < ops.size → ∀ V w, K i w → Γ V w → (∀ j, (depsOf ops i).contains j = true → Φ j V w) → stepFLG P ops (T i) (Φ i) Γ V i (frV ops a0 V i) w)
    (hend : ∀ V w, Γ V w → (∀ i, i < ops.size → Φ i V w) → Q .normal (frV ops a0 V ops.size) w) (f : Nat) :
    ∀ listed a w, left listed ops.size = f → HeadInv .any ops ops.size listed → FrLG ops a0 Φ Γ listed a w → (∀ i, i < ops.size → listed.getD i false = false → K i w) → wpAny P .any ops Q f listed a w := by
  have hready : ∀ {listed : Array Bool} {i j : Nat}, i ∈ Region.ready .any ops listed → (depsOf ops i).contains j = true → listed.getD j false = true := fun hi hj =>
    waits_listed hi (List.mem_filter.1 (show _ ∈ depsOf ops _ by simpa using hj)).2
  induction f with
  | zero =>
    intro listed a w hf hinv inv hk
    have hall := left_zero hf
    have ea : a = frV ops a0 (valOf ops a) ops.size := by
      obtain ⟨tm, df⟩ := a
      have h1 : tm = (frV ops a0 (valOf ops ⟨tm, df⟩) ops.size).tmps := by
        apply Array.ext_getElem?
        intro s
        by_cases hex : ∃ j, j < ops.size ∧ dstOf ops j = some s
        · obtain ⟨j, hj, hd⟩ := hex
          exact (frV_in a0 ⟨tm, df⟩ inv.size ops.size s ⟨j, hj, hd⟩ (dstR_lt hD hj hd)).symm
        · have hno : ∀ j, j < ops.size → dstOf ops j ≠ some s := fun j hj hd => hex ⟨j, hj, hd⟩
          rw [frV_out a0 _ ops.size s hno]
          exact inv.old s fun i hi _ => hno i hi
      have h2 : df = (frV ops a0 (valOf ops ⟨tm, df⟩) ops.size).defers := by rw [frV_defers]; exact inv.defers
      generalize frV ops a0 (valOf ops ⟨tm, df⟩) ops.size = b at *
      obtain ⟨bt, bd⟩ := b
      simp_all
    refine ⟨List.eq_nil_iff_forall_not_mem.2 fun j hj => ?_, ?_⟩
    · obtain ⟨h1, o, ho, _⟩ := mem_ready.1 hj
      have hjl : j < ops.size := (Array.getElem?_eq_some_iff.1 ho).1
      have h2 := hall j hjl
      rw [getD_both h1] at h2
      cases h2
    · have := hend (valOf ops a) w inv.g fun i hi => inv.all i hi (hall i hi)
      rwa [← ea] at this
  | succ f ih =>
    intro listed a w hf hinv inv hk0
    obtain ⟨k, hk, hkf, hkall⟩ := left_pos (by rw [hf]; exact Nat.succ_ne_zero f)
    have hkt : listed.getD k true = false := getD_in (by rw [hinv.size]; omega) hkf
    have hkr : k ∈ Region.ready .any ops listed := mem_ready.2 ⟨hkt, ops[k], by simp [hk], fun e he hb => hkall e.on (lexG_spec hlex (k := k) (by simp [hk]) e he hb)⟩
    refine ⟨fun h0 => absurd h0 (List.ne_nil_of_mem hkr), fun i hi => ?_⟩
    obtain ⟨hiun, o, ho, hall⟩ := mem_ready.1 hi
    have hin : i < ops.size := (Array.getElem?_eq_some_iff.1 ho).1
    have hlk := lookG_spec hL hin ho
    have hd : dstOf ops i = o.dst := by unfold dstOf; rw [ho]; rfl
    have hdeps : ∀ j, (depsOf ops i).contains j = true → j < i ∧ listed.getD j false = true := fun j hj =>
      ⟨List.mem_range.1 (List.mem_filter.1 (show j ∈ depsOf ops i by simpa using hj)).1, hready hi hj⟩
    have S := hstep i hin (valOf ops a) w (hk0 i hin (getD_both hiun)) inv.g fun j hj => inv.all j (by have := (hdeps j hj).1; omega) (hdeps j hj).2
    unfold stepFLG stepFG at S
    simp only [ho] at S
    obtain ⟨hgd, S⟩ := S
    have hex : execOp a.eval o = execOp (frV ops a0 (valOf ops a) i).eval o := by
      refine execOp_congr o (fun cs b => Region.noSelect_spec hsel i o cs b ho) fun x hx => eval_same fun t ht => ?_
      subst ht
      have htl : t ∈ o.looksAt ops := List.mem_append_left _ (List.mem_filterMap.2 ⟨.tmp t, by simpa using hx, rfl⟩)
      by_cases hexi : ∃ j, j < ops.size ∧ dstOf ops j = some t
      · obtain ⟨j, hj, hdj⟩ := hexi
        obtain ⟨hji, _⟩ := hlk t htl j hj hdj
        exact (frV_in a0 a inv.size i t ⟨j, hji, hdj⟩ (dstR_lt hD hj hdj)).symm
      · have hno : ∀ j, j < ops.size → dstOf ops j ≠ some t := fun j hj hd => hexi ⟨j, hj, hd⟩
        rw [frV_out a0 _ i t fun j hj => hno j (by omega)]
        exact inv.old t fun j hj _ => hno j hj
    have next : ∀ v w', (dstOf ops i = none → v = undef) → T i w w' → Φ i (upV (valOf ops a) i v) w' → Γ (upV (valOf ops a) i v) w' → wpAny P .any ops Q f (listed.setIfInBounds i true) (a.put o.dst v) w' := by
      intro v w' hun hgo hv hgv
      have hlf : left (listed.setIfInBounds i true) ops.size = f := by have := left_set hin hiun; omega
      have hset : ∀ j, j ≠ i → (listed.setIfInBounds i true).getD j false = listed.getD j false := fun j hj => getD_set_ne false (Ne.symm hj)
      have hvo : ∀ j, j < ops.size → valOf ops (a.put o.dst v) j = upV (valOf ops a) i v j := fun j hj => by
        by_cases hji : j = i
        · subst hji
          rw [upV_at]
          unfold valOf
          rw [hd]
          cases hod : o.dst with
          | none => exact (hun (by rw [hd, hod])).symm
          | some d =>
            have hlt : d < a.tmps.size := by rw [inv.size]; exact dstR_lt hD hin (by rw [hd, hod])
            have := put_same a d v hlt
            simp only [Array.getD_eq_getD_getElem?, this]
            rfl
        · rw [upV_ne hji]
          unfold valOf
          cases hdj : dstOf ops j with
          | none => rfl
          | some d =>
            have hne : o.dst ≠ some d := by rw [← hd]; exact dstR_ne hD hj hin hji hdj
            have := put_other a v hne
            simp only [Array.getD_eq_getD_getElem?, this]
      refine ih _ _ _ hlf (hinv.set hi hin) ?_ fun j hj hju => ?_
      · refine ⟨(put_size _ _ _).trans inv.size, (put_defers _ _ _).trans inv.defers, fun s hs' => ?_, fun j hj hjl => ?_, hΓc _ _ w' (fun j hj => (hvo j hj).symm) hgv⟩
        · have h1 : dstOf ops i ≠ some s := hs' i hin (by
            have : i < listed.size := by rw [hinv.size]; omega
            simp [this])
          rw [put_other _ _ (by rw [← hd]; exact h1)]
          exact inv.old s fun j hj hjl => hs' j hj (getD_set_true hjl)
        · by_cases hji : j = i
          · subst hji
            exact hcong j _ _ w' hj (hvo j hj).symm (fun q hq => (hvo q (by have := (hdeps q hq).1; omega)).symm) hv
          · rw [hset j hji] at hjl
            have hnd : (depsOf ops j).contains i = false := by
              cases hc : (depsOf ops j).contains i with
              | false => rfl
              | true =>
                obtain ⟨oj, hoj, e, he, hb, hon⟩ := Region.waitsFor_spec (List.mem_filter.1 (show i ∈ depsOf ops j by simpa using hc)).2
                have h9 := hinv.closed j oj hoj hjl e he hb
                rw [hon, getD_both hiun] at h9
                cases h9
            refine hΦT i j _ w w' hin hj hji hnd hgo (hcong j _ _ w hj ?_ (fun q hq => ?_) (inv.all j hj hjl))
            · rw [hvo j hj, upV_ne hji]
            · have hqi : q ≠ i := fun e => by subst e; rw [hnd] at hq; cases hq
              have hqj := List.mem_range.1 (List.mem_filter.1 (show q ∈ depsOf ops j by simpa using hq)).1
              rw [hvo q (by omega), upV_ne hqi]
      · have hji : j ≠ i := fun e => by
          subst e
          have : j < listed.size := by rw [hinv.size]; omega
          simp [this] at hju
        rw [hset j hji] at hju
        refine hKT i j w w' hin hj hji ?_ hgo (hk0 j hj hju)
        cases hc : (depsOf ops i).contains j with
        | false => rfl
        | true => rw [(hdeps j hc).2] at hju; cases hju
    unfold wpOp
    simp only [ho]
    have hwa : Region.wanted o (yielded ops a.tmps) = true := by unfold Region.wanted; rw [hgd]
    rw [if_pos hwa]
    refine .inl ?_
    unfold Oper.wp
    rw [hex]
    generalize (execOp (frV ops a0 (valOf ops a) i).eval o).run P w = r at S
    match r, S with
    | .ok (.value v) w', S => exact next v w' (fun e => by rw [← hd, e] at S; cases S.1) S.2.1 S.2.2.1 S.2.2.2
    | .ok .skip w', S => exact next undef w' (fun _ => rfl) S.1 S.2.1 S.2.2
/-- one operation behind the other -/
def lflG (P : Program) (ops : Array Oper) (K : Nat → World → Prop) (T : Nat → World → World → Prop) (Φ : Nat → (Nat → Value) → World → Prop) (Γ : (Nat → Value) → World → Prop) (V : Nat → Value) (F : Act → Prop) : Nat → List Oper → Act → Prop
  | _, [], A => F A
  | i, o :: rest, A => (∀ w, K i w → Γ V w → (∀ j, (depsOf ops i).contains j = true → Φ j V w) → stepFG P o (T i) (Φ i) Γ V i A w) ∧ lflG P ops K T Φ Γ V F (i + 1) rest (A.put o.dst (V i))
theorem lfl_getG {K : Nat → World → Prop} {T : Nat → World → World → Prop} {Φ : Nat → (Nat → Value) → World → Prop} {Γ : (Nat → Value) → World → Prop} {V : Nat → Value} {F : Act → Prop} {a : Act} {l : List Oper} (hl : ops = l.toArray) : ∀ {rest : List Oper} {i : Nat}, (∀ j, rest[j]? = l[i + j]?) → lflG P ops K T Φ Γ V F i rest (frV ops a V i) →
    (∀ k, i ≤ k → k < i + rest.length → ∀ w, K k w → Γ V w → (∀ j, (depsOf ops k).contains j = true → Φ j V w) → stepFLG P ops (T k) (Φ k) Γ V k (frV ops a V k) w) ∧ F (frV ops a V (i + rest.length))
  | [], i, hr, h => ⟨fun k h1 h2 => by simp at h2; omega, h⟩
  | o :: rest, i, hr, h => by
    unfold lflG at h
    have h0 : l[i]? = some o := by simpa using (hr 0).symm
    have hd : dstOf ops i = o.dst := by unfold dstOf; rw [hl, List.getElem?_toArray, h0]; rfl
    have h2 := h.2
    rw [← hd, show (frV ops a V i).put (dstOf ops i) (V i) = frV ops a V (i + 1) from rfl] at h2
    have ih := lfl_getG (a := a) hl (rest := rest) (i := i + 1) (fun j => by have := hr (j + 1); simpa [Nat.add_assoc, Nat.add_comm 1 j] using this) h2
    refine ⟨fun k h1 h3 => ?_, ?_⟩
    · by_cases e : k = i
      · subst e
        unfold stepFLG
        rw [hl, List.getElem?_toArray, h0, ← hl]
        exact h.1
      · exact ih.1 k (by omega) (by rw [List.length_cons] at h3; omega)
    · have := ih.2
      rwa [show i + 1 + rest.length = i + (o :: rest).length by rw [List.length_cons]; omega] at this
theorem lfl_consG {K : Nat → World → Prop} {T : Nat → World → World → Prop} {Φ : Nat → (Nat → Value) → World → Prop} {Γ : (Nat → Value) → World → Prop} {V : Nat → Value} {F : Act → Prop} {i : Nat} (k : Nat) (hk : i + 1 = k) {o : Oper} {rest : List Oper} {A : Act} (h1 : ∀ w, K i w → Γ V w → (∀ j, (depsOf ops i).contains j = true → Φ j V w) → stepFG P o (T i) (Φ i) Γ V i A w) (h2 : lflG P ops K T Φ Γ V F k rest (A.put o.dst (V i))) : lflG P ops K T Φ Γ V F i (o :: rest) A := ⟨h1, by rw [hk]; exact h2⟩
theorem lfl_nilG {K : Nat → World → Prop} {T : Nat → World → World → Prop} {Φ : Nat → (Nat → Value) → World → Prop} {Γ : (Nat → Value) → World → Prop} {V : Nat → Value} {F : Act → Prop} {i : Nat} {A : Act} (h : F A) : lflG P ops K T Φ Γ V F i [] A := h
/-- **The region.** -/
theorem region_lfG (K : Nat → World → Prop) (T : Nat → World → World → Prop) (Φ : Nat → (Nat → Value) → World → Prop) (Γ : (Nat → Value) → World → Prop) {id : Nat} {Q : Exit → Act → World → Prop} {a : Act} {w : World} {l : List Oper} (n : Nat) (hn : l.length = n)
    (hcong : ∀ i V V' w, i < n → V i = V' i → (∀ j, (depsOf l.toArray i).contains j = true → V j = V' j) → Φ i V w → Φ i V' w)
    (hΓc : ∀ V V' w, (∀ j, j < n → V j = V' j) → Γ V w → Γ V' w)
    (hKT : ∀ i j w w', i < n → j < n → j ≠ i → (depsOf l.toArray i).contains j = false → T i w w' → K j w → K j w')
    (hΦT : ∀ i j V w w', i < n → j < n → j ≠ i → (depsOf l.toArray j).contains i = false → T i w w' → Φ j V w → Φ j V w')
    (hm : P.follows .mixedOrders = true) (hsel : Region.noSelect l.toArray = true) (hlex : lexG l.toArray = true) (hL : lookG l.toArray n = true) (hD : dstR l.toArray n a.tmps.size = true)
    (hK0 : ∀ i, i < n → K i w.drew) (hΓ0 : Γ (valOf l.toArray a) w.drew)
    (h : ∀ V, lflG P l.toArray K T Φ Γ V (fun A => ∀ w, Γ V w → (∀ i, i < n → Φ i V w) → wpList P l.toArray Q [] A w) 0 l a) : (Code.region id l.toArray true).wp P Q a w := by
  have hs : l.toArray.size = n := by simpa using hn
  subst hs
  have inv0 : HeadInv .any l.toArray l.toArray.size (Array.replicate l.toArray.size false) :=
    ⟨by simp, fun j oj _ hl => (by rw [getD_replicate_false] at hl; cases hl), fun t h1 h2 => by omega⟩
  have hl0 : left (Array.replicate l.toArray.size false) l.toArray.size = l.toArray.size := by
    unfold left
    rw [List.filter_eq_self.2 fun i _ => by rw [getD_replicate_false]; rfl]
    simp
  have fr0 : FrLG l.toArray a Φ Γ (Array.replicate l.toArray.size false) a w.drew :=
    ⟨rfl, rfl, fun _ _ => rfl, fun i _ h => (by rw [getD_replicate_false] at h; cases h), hΓ0⟩
  have hg := fun V => lfl_getG (a := a) (ops := l.toArray) (P := P) (K := K) (T := T) (Φ := Φ) (Γ := Γ) (V := V) (l := l) rfl (rest := l) (i := 0) (fun j => by rw [Nat.zero_add]) (h V)
  have hll : l.length = l.toArray.size := by simp
  have A := any_of_lfG (P := P) (Q := Q) (ops := l.toArray) (a0 := a) (K := K) (T := T) (Φ := Φ) (Γ := Γ) hcong hΓc hKT hΦT hsel hlex hL hD
    (fun i hi V w => (hg V).1 i (Nat.zero_le _) (by rw [Nat.zero_add, hll]; exact hi) w)
    (fun V w hgw hw => by
      have h9 := (hg V).2
      rw [Nat.zero_add, hll] at h9
      exact h9 w hgw hw) l.toArray.size _ a w.drew hl0 inv0 fr0 (fun i hi _ => hK0 i hi)
  exact wp_region_any hm A
end
end Go.Proofs.Ytbpdggdpgohilaa
namespace Go.Proofs.Ytbpdggdpgohilaa
open Go.RowKit
set_option linter.unusedVariables false
set_option maxRecDepth 100000
set_option maxHeartbeats 4000000
def ntV (WB OB m oc n : Nat) : Nat → Value
  | 2 => .pointer (some ⟨WB, 1, none⟩)
  | 3 => .slice (some ⟨OB, 0, none⟩) m oc
  | 4 => .int .i64 n
  | 6 => .int .i64 n
  | 8 => .int .i64 n
  | _ => .pointer (some ⟨WB, 0, none⟩)
def ntM (S n : Nat) (v : Value) (w : World) : Prop := ∃ q, v = .slice (some ⟨q, 0, none⟩) n n ∧ OwnN w S (.slice (some ⟨q, 0, none⟩) n n) n (fun _ => 0)
def ntI (i : Nat) : Prop := i = 5 ∨ i = 7 ∨ i = 9
def ntG (V : Nat → Value) (w : World) : Prop := ∀ i j, ntI i → ntI j → i ≠ j → ∀ q, (V i).ownBlock = some q → q < w.heap.size ∧ (V j).ownBlock ≠ some q
theorem ntG_lt {V : Nat → Value} {w : World} (h : ntG V w) {i : Nat} (hi : ntI i) {q : Nat} (hq : (V i).ownBlock = some q) : q < w.heap.size := by
  by_cases e : i = 5
  · exact (h i 7 hi (.inr (.inl rfl)) (by omega) q hq).1
  · exact (h i 5 hi (.inl rfl) e q hq).1
theorem ntG_other {V : Nat → Value} {w w' : World} (h : ntG V w) (hs : w.heap.size ≤ w'.heap.size) {i : Nat} (hi : ¬ ntI i) {v : Value} : ntG (upV V i v) w' := fun a b ha hb hab q hq => by
  rw [upV_ne (show a ≠ i from fun e => hi (by rw [← e]; exact ha))] at hq
  rw [upV_ne (show b ≠ i from fun e => hi (by rw [← e]; exact hb))]
  have := h a b ha hb hab q hq
  exact ⟨by omega, this.2⟩
theorem ntG_make {V : Nat → Value} {w w' : World} (h : ntG V w) (hs : w.heap.size < w'.heap.size) {i : Nat} {n : Nat} : ntG (upV V i (.slice (some ⟨w.heap.size, 0, none⟩) n n)) w' := fun a b ha hb hab q hq => by
  by_cases e : a = i
  · subst e
    rw [upV_at] at hq
    simp [Value.ownBlock] at hq
    subst hq
    rw [upV_ne (fun e => hab e.symm)]
    refine ⟨hs, fun e => ?_⟩
    have := ntG_lt h hb e
    omega
  · rw [upV_ne e] at hq
    have h1 := ntG_lt h ha hq
    by_cases e2 : b = i
    · subst e2
      rw [upV_at]
      refine ⟨by omega, fun e3 => ?_⟩
      simp [Value.ownBlock] at e3
      omega
    · rw [upV_ne e2]
      exact ⟨by omega, (h a b ha hb hab q hq).2⟩
section
variable {S WB OB m oc n : Nat} {W0 : World}
end
theorem stepFG_val {P : Program} {o : Oper} {T : World → World → Prop} {Φ Γ : (Nat → Value) → World → Prop} {V : Nat → Value} {i : Nat} {a : Act} {w w' : World} {v : Value} (hg : o.guard = none) (hd : o.dst.isSome = true) (hr : (execOp a.eval o).run P w = .ok (.value v) w') (hT : T w w') (hΦ : Φ (upV V i v) w') (hΓ : Γ (upV V i v) w') : stepFG P o T Φ Γ V i a w := by
  unfold stepFG
  rw [hr]
  exact ⟨hg, hd, hT, hΦ, hΓ⟩
theorem stepFG_skip {P : Program} {o : Oper} {T : World → World → Prop} {Φ Γ : (Nat → Value) → World → Prop} {V : Nat → Value} {i : Nat} {a : Act} {w w' : World} (hg : o.guard = none) (hr : (execOp a.eval o).run P w = .ok .skip w') (hT : T w w') (hΦ : Φ (upV V i undef) w') (hΓ : Γ (upV V i undef) w') : stepFG P o T Φ Γ V i a w := by
  unfold stepFG
  rw [hr]
  exact ⟨hg, hT, hΦ, hΓ⟩
end Go.Proofs.Ytbpdggdpgohilaa
