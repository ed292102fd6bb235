/- Contracts and plain facts that the walks share. -/
import Derived.Test.YtbpdggdpgohilaaRuLu
import Derived.Test.YtbpdggdpgohilaaG2
import Derived.Laws.AppendOwnNone
import Derived.Deep.Onto
namespace Go.Proofs.Ytbpdggdpgohilaa
open Go.RowKit
set_option linter.unusedVariables false
section
variable {P : Program} {ops : Array Oper}
def upV (V : Nat → Value) (i : Nat) (v : Value) : Nat → Value := fun j => if j = i then v else V j
theorem upV_at (V : Nat → Value) (i : Nat) (v : Value) : upV V i v i = v := by unfold upV; simp
theorem upV_ne {V : Nat → Value} {i j : Nat} {v : Value} (h : j ≠ i) : upV V i v j = V j := by unfold upV; rw [if_neg h]
/-- what an operation's step must show -/
def stepF (P : Program) (o : Oper) (T : World → World → Prop) (Φ : (Nat → Value) → World → Prop) (V : Nat → Value) (i : Nat) (a : Act) (w : World) : Prop :=
  o.guard = none ∧ match (execOp a.eval o).run P w with
    | .ok (.value v) w' => o.dst.isSome = true ∧ T w w' ∧ Φ (upV V i v) w'
    | .ok .skip w' => T w w' ∧ Φ (upV V i undef) w'
    | _ => False
def stepFL (P : Program) (ops : Array Oper) (T : World → World → Prop) (Φ : (Nat → Value) → World → Prop) (V : Nat → Value) (i : Nat) (a : Act) (w : World) : Prop :=
  match ops[i]? with
  | none => False
  | some o => stepF P o T Φ V i a w
/-- each operation waits for such alone as stand ahead of it -/
def lexG (ops : Array Oper) : Bool := (List.range ops.size).all fun k => match ops[k]? with | none => true | some o => o.after.all fun e => !Region.binds .any e || decide (e.on < k)
theorem lexG_spec (h : lexG ops = true) {k : Nat} {o : Oper} (ho : ops[k]? = some o) : ∀ e, e ∈ o.after → Region.binds .any e = true → e.on < k := fun e he hb => by
  have hk : k < ops.size := (Array.getElem?_eq_some_iff.1 ho).1
  have h1 := List.all_eq_true.1 h k (List.mem_range.2 hk)
  simp only [ho, Array.all_eq_true_iff_forall_mem, Bool.or_eq_true, Bool.not_eq_true', decide_eq_true_eq] at h1
  rcases h1 e he with h2 | h2
  · rw [hb] at h2; cases h2
  · exact h2
structure FrL (ops : Array Oper) (a0 : Act) (Φ : Nat → (Nat → Value) → World → Prop) (listed : Array Bool) (a : Act) (w : World) : Prop where
  size : a.tmps.size = a0.tmps.size
  defers : a.defers = a0.defers
  old : ∀ s, (∀ i, i < ops.size → listed.getD i false = true → dstOf ops i ≠ some s) → a.tmps[s]? = a0.tmps[s]?
  all : ∀ i, i < ops.size → listed.getD i false = true → Φ i (valOf ops a) w
set_option maxHeartbeats 2000000 in
theorem any_of_lf {a0 : Act} {Q : Exit → Act → World → Prop} {K : Nat → World → Prop} {T : Nat → World → World → Prop} {Φ : Nat → (Nat → Value) → World → Prop}
    (hcong : ∀ i V V' w, i < ops.size → V i = V' i → (∀ j, (depsOf ops i).contains j = true → V j = V' j) → Φ i V w → Φ i V' w)
    (hKT : ∀ i j w w', i < ops.size → j < ops.size → j ≠ i → (depsOf ops i).contains j = false → T i w w' → K j w → K j w')
    (hΦT : ∀ i j V w w', i < ops.size → j < ops.size → j ≠ i → (depsOf ops j).contains i = false → T i w w' → Φ j V w → Φ j V w')
    (hsel : Region.noSelect ops = true) (hlex : lexG ops = true) (hL : lookG ops ops.size = true) (hD : dstR ops ops.size a0.tmps.size = true)
    (hstep : ∀ i, i < ops.size → ∀ V w, K i w → (∀ j, (depsOf ops i).contains j = true → Φ j V w) → stepFL P ops (T i) (Φ i) V i (frV ops a0 V i) w)
    (hend : ∀ V w, (∀ i, i < ops.size → Φ i V w) → Q .normal (frV ops a0 V ops.size) w) (f : Nat) :
    ∀ listed a w, left listed ops.size = f → HeadInv .any ops ops.size listed → FrL ops a0 Φ listed a w → (∀ i, i < ops.size → listed.getD i false = false → K i w) → wpAny P .any ops Q f listed a w := by
  have hready : ∀ {listed : Array Bool} {i j : Nat}, i ∈ Region.ready .any ops listed → (depsOf ops i).contains j = true → listed.getD j false = true := fun hi hj =>
    waits_listed hi (List.mem_filter.1 (show _ ∈ depsOf ops _ by simpa using hj)).2
  induction f with
  | zero =>
    intro listed a w hf hinv inv hk
    have hall := left_zero hf
    have ea : a = frV ops a0 (valOf ops a) ops.size := by
      obtain ⟨tm, df⟩ := a
      have h1 : tm = (frV ops a0 (valOf ops ⟨tm, df⟩) ops.size).tmps := by
        apply Array.ext_getElem?
        intro s
        by_cases hex : ∃ j, j < ops.size ∧ dstOf ops j = some s
        · obtain ⟨j, hj, hd⟩ := hex
          exact (frV_in a0 ⟨tm, df⟩ inv.size ops.size s ⟨j, hj, hd⟩ (dstR_lt hD hj hd)).symm
        · have hno : ∀ j, j < ops.size → dstOf ops j ≠ some s := fun j hj hd => hex ⟨j, hj, hd⟩
          rw [frV_out a0 _ ops.size s hno]
          exact inv.old s fun i hi _ => hno i hi
      have h2 : df = (frV ops a0 (valOf ops ⟨tm, df⟩) ops.size).defers := by rw [frV_defers]; exact inv.defers
      generalize frV ops a0 (valOf ops ⟨tm, df⟩) ops.size = b at *
      obtain ⟨bt, bd⟩ := b
      simp_all
    refine ⟨List.eq_nil_iff_forall_not_mem.2 fun j hj => ?_, ?_⟩
    · obtain ⟨h1, o, ho, _⟩ := mem_ready.1 hj
      have hjl : j < ops.size := (Array.getElem?_eq_some_iff.1 ho).1
      have h2 := hall j hjl
      rw [getD_both h1] at h2
      cases h2
    · have := hend (valOf ops a) w fun i hi => inv.all i hi (hall i hi)
      rwa [← ea] at this
  | succ f ih =>
    intro listed a w hf hinv inv hk0
    obtain ⟨k, hk, hkf, hkall⟩ := left_pos (by rw [hf]; exact Nat.succ_ne_zero f)
    have hkt : listed.getD k true = false := getD_in (by rw [hinv.size]; omega) hkf
    have hkr : k ∈ Region.ready .any ops listed := mem_ready.2 ⟨hkt, ops[k], by simp [hk], fun e he hb => hkall e.on (lexG_spec hlex (k := k) (by simp [hk]) e he hb)⟩
    refine ⟨fun h0 => absurd h0 (List.ne_nil_of_mem hkr), fun i hi => ?_⟩
    obtain ⟨hiun, o, ho, hall⟩ := mem_ready.1 hi
    have hin : i < ops.size := (Array.getElem?_eq_some_iff.1 ho).1
    have hlk := lookG_spec hL hin ho
    have hd : dstOf ops i = o.dst := by unfold dstOf; rw [ho]; rfl
    have hdeps : ∀ j, (depsOf ops i).contains j = true → j < i ∧ listed.getD j false = true := fun j hj =>
      ⟨List.mem_range.1 (List.mem_filter.1 (show j ∈ depsOf ops i by simpa using hj)).1, hready hi hj⟩
    have S := hstep i hin (valOf ops a) w (hk0 i hin (getD_both hiun)) fun j hj => inv.all j (by have := (hdeps j hj).1; omega) (hdeps j hj).2
    unfold stepFL stepF at S
    simp only [ho] at S
    obtain ⟨hgd, S⟩ := S
    have hex : execOp a.eval o = execOp (frV ops a0 (valOf ops a) i).eval o := by
      refine execOp_congr o (fun cs b => Region.noSelect_spec hsel i o cs b ho) fun x hx => eval_same fun t ht => ?_
      subst ht
      have htl : t ∈ o.looksAt ops := List.mem_append_left _ (List.mem_filterMap.2 ⟨.tmp t, by simpa using hx, rfl⟩)
      by_cases hexi : ∃ j, j < ops.size ∧ dstOf ops j = some t
      · obtain ⟨j, hj, hdj⟩ := hexi
        obtain ⟨hji, _⟩ := hlk t htl j hj hdj
        exact (frV_in a0 a inv.size i t ⟨j, hji, hdj⟩ (dstR_lt hD hj hdj)).symm
      · have hno : ∀ j, j < ops.size → dstOf ops j ≠ some t := fun j hj hd => hexi ⟨j, hj, hd⟩
        rw [frV_out a0 _ i t fun j hj => hno j (by omega)]
        exact inv.old t fun j hj _ => hno j hj
    have next : ∀ v w', (dstOf ops i = none → v = undef) → T i w w' → Φ i (upV (valOf ops a) i v) w' → wpAny P .any ops Q f (listed.setIfInBounds i true) (a.put o.dst v) w' := by
      intro v w' hun hgo hv
      have hlf : left (listed.setIfInBounds i true) ops.size = f := by have := left_set hin hiun; omega
      have hset : ∀ j, j ≠ i → (listed.setIfInBounds i true).getD j false = listed.getD j false := fun j hj => getD_set_ne false (Ne.symm hj)
      have hvo : ∀ j, j < ops.size → valOf ops (a.put o.dst v) j = upV (valOf ops a) i v j := fun j hj => by
        by_cases hji : j = i
        · subst hji
          rw [upV_at]
          unfold valOf
          rw [hd]
          cases hod : o.dst with
          | none => exact (hun (by rw [hd, hod])).symm
          | some d =>
            have hlt : d < a.tmps.size := by rw [inv.size]; exact dstR_lt hD hin (by rw [hd, hod])
            have := put_same a d v hlt
            simp only [Array.getD_eq_getD_getElem?, this]
            rfl
        · rw [upV_ne hji]
          unfold valOf
          cases hdj : dstOf ops j with
          | none => rfl
          | some d =>
            have hne : o.dst ≠ some d := by rw [← hd]; exact dstR_ne hD hj hin hji hdj
            have := put_other a v hne
            simp only [Array.getD_eq_getD_getElem?, this]
      refine ih _ _ _ hlf (hinv.set hi hin) ?_ fun j hj hju => ?_
      · refine ⟨(put_size _ _ _).trans inv.size, (put_defers _ _ _).trans inv.defers, fun s hs' => ?_, fun j hj hjl => ?_⟩
        · have h1 : dstOf ops i ≠ some s := hs' i hin (by
            have : i < listed.size := by rw [hinv.size]; omega
            simp [this])
          rw [put_other _ _ (by rw [← hd]; exact h1)]
          exact inv.old s fun j hj hjl => hs' j hj (getD_set_true hjl)
        · by_cases hji : j = i
          · subst hji
            exact hcong j _ _ w' hj (hvo j hj).symm (fun q hq => (hvo q (by have := (hdeps q hq).1; omega)).symm) hv
          · rw [hset j hji] at hjl
            have hnd : (depsOf ops j).contains i = false := by
              cases hc : (depsOf ops j).contains i with
              | false => rfl
              | true =>
                obtain ⟨oj, hoj, e, he, hb, hon⟩ := Region.waitsFor_spec (List.mem_filter.1 (show i ∈ depsOf ops j by simpa using hc)).2
                have h9 := hinv.closed j oj hoj hjl e he hb
                rw [hon, getD_both hiun] at h9
                cases h9
            refine hΦT i j _ w w' hin hj hji hnd hgo (hcong j _ _ w hj ?_ (fun q hq => ?_) (inv.all j hj hjl))
            · rw [hvo j hj, upV_ne hji]
            · have hqi : q ≠ i := fun e => by subst e; rw [hnd] at hq; cases hq
              have hqj := List.mem_range.1 (List.mem_filter.1 (show q ∈ depsOf ops j by simpa using hq)).1
              rw [hvo q (by omega), upV_ne hqi]
      · have hji : j ≠ i := fun e => by
          subst e
          have : j < listed.size := by rw [hinv.size]; omega
          simp [this] at hju
        rw [hset j hji] at hju
        refine hKT i j w w' hin hj hji ?_ hgo (hk0 j hj hju)
        cases hc : (depsOf ops i).contains j with
        | false => rfl
        | true => rw [(hdeps j hc).2] at hju; cases hju
    unfold wpOp
    simp only [ho]
    have hwa : Region.wanted o (yielded ops a.tmps) = true := by unfold Region.wanted; rw [hgd]
    rw [if_pos hwa]
    refine .inl ?_
    unfold Oper.wp
    rw [hex]
    generalize (execOp (frV ops a0 (valOf ops a) i).eval o).run P w = r at S
    match r, S with
    | .ok (.value v) w', S => exact next v w' (fun e => by rw [← hd, e] at S; cases S.1) S.2.1 S.2.2
    | .ok .skip w', S => exact next undef w' (fun _ => rfl) S.1 S.2
/-- one operation behind the other -/
def lfl (P : Program) (ops : Array Oper) (K : Nat → World → Prop) (T : Nat → World → World → Prop) (Φ : Nat → (Nat → Value) → World → Prop) (V : Nat → Value) (F : Act → Prop) : Nat → List Oper → Act → Prop
  | _, [], A => F A
  | i, o :: rest, A => (∀ w, K i w → (∀ j, (depsOf ops i).contains j = true → Φ j V w) → stepF P o (T i) (Φ i) V i A w) ∧ lfl P ops K T Φ V F (i + 1) rest (A.put o.dst (V i))
theorem lfl_get {K : Nat → World → Prop} {T : Nat → World → World → Prop} {Φ : Nat → (Nat → Value) → World → Prop} {V : Nat → Value} {F : Act → Prop} {a : Act} {l : List Oper} (hl : ops = l.toArray) : ∀ {rest : List Oper} {i : Nat}, (∀ j, rest[j]? = l[i + j]?) → lfl P ops K T Φ V F i rest (frV ops a V i) →
    (∀ k, i ≤ k → k < i + rest.length → ∀ w, K k w → (∀ j, (depsOf ops k).contains j = true → Φ j V w) → stepFL P ops (T k) (Φ k) V k (frV ops a V k) w) ∧ F (frV ops a V (i + rest.length))
  | [], i, hr, h => ⟨fun k h1 h2 => by simp at h2; omega, h⟩
  | o :: rest, i, hr, h => by
    unfold lfl at h
    have h0 : l[i]? = some o := by simpa using (hr 0).symm
    have hd : dstOf ops i = o.dst := by unfold dstOf; rw [hl, List.getElem?_toArray, h0]; rfl
    have h2 := h.2
    rw [← hd, show (frV ops a V i).put (dstOf ops i) (V i) = frV ops a V (i + 1) from rfl] at h2
    have ih := lfl_get (a := a) hl (rest := rest) (i := i + 1) (fun j => by have := hr (j + 1); simpa [Nat.add_assoc, Nat.add_comm 1 j] using this) h2
    refine ⟨fun k h1 h3 => ?_, ?_⟩
    · by_cases e : k = i
      · subst e
        unfold stepFL
        rw [hl, List.getElem?_toArray, h0, ← hl]
        exact h.1
      · exact ih.1 k (by omega) (by rw [List.length_cons] at h3; omega)
    · have := ih.2
      rwa [show i + 1 + rest.length = i + (o :: rest).length by rw [List.length_cons]; omega] at this
theorem lfl_cons {K : Nat → World → Prop} {T : Nat → World → World → Prop} {Φ : Nat → (Nat → Value) → World → Prop} {V : Nat → Value} {F : Act → Prop} {i : Nat} (k : Nat) (hk : i + 1 = k) {o : Oper} {rest : List Oper} {A : Act} (h1 : ∀ w, K i w → (∀ j, (depsOf ops i).contains j = true → Φ j V w) → stepF P o (T i) (Φ i) V i A w) (h2 : lfl P ops K T Φ V F k rest (A.put o.dst (V i))) : lfl P ops K T Φ V F i (o :: rest) A := ⟨h1, by rw [hk]; exact h2⟩
theorem lfl_nil {K : Nat → World → Prop} {T : Nat → World → World → Prop} {Φ : Nat → (Nat → Value) → World → Prop} {V : Nat → Value} {F : Act → Prop} {i : Nat} {A : Act} (h : F A) : lfl P ops K T Φ V F i [] A := h
theorem deps_all {L : Array Oper} {m k : Nat} (h : ((List.range m).all fun i => (depsOf L k).contains i) = true) {i : Nat} (hi : i < m) (hc : (depsOf L k).contains i = false) : False := by
  have := List.all_eq_true.1 h i (List.mem_range.2 hi)
  rw [hc] at this
  cases this
/-- **The region.** -/
theorem region_lf (K : Nat → World → Prop) (T : Nat → World → World → Prop) (Φ : Nat → (Nat → Value) → World → Prop) {id : Nat} {Q : Exit → Act → World → Prop} {a : Act} {w : World} {l : List Oper} (n : Nat) (hn : l.length = n)
    (hcong : ∀ i V V' w, i < n → V i = V' i → (∀ j, (depsOf l.toArray i).contains j = true → V j = V' j) → Φ i V w → Φ i V' w)
    (hKT : ∀ i j w w', i < n → j < n → j ≠ i → (depsOf l.toArray i).contains j = false → T i w w' → K j w → K j w')
    (hΦT : ∀ i j V w w', i < n → j < n → j ≠ i → (depsOf l.toArray j).contains i = false → T i w w' → Φ j V w → Φ j V w')
    (hm : P.follows .mixedOrders = true) (hsel : Region.noSelect l.toArray = true) (hlex : lexG l.toArray = true) (hL : lookG l.toArray n = true) (hD : dstR l.toArray n a.tmps.size = true)
    (hK0 : ∀ i, i < n → K i w.drew)
    (h : ∀ V, lfl P l.toArray K T Φ V (fun A => ∀ w, (∀ i, i < n → Φ i V w) → wpList P l.toArray Q [] A w) 0 l a) : (Code.region id l.toArray true).wp P Q a w := by
  have hs : l.toArray.size = n := by simpa using hn
  subst hs
  have inv0 : HeadInv .any l.toArray l.toArray.size (Array.replicate l.toArray.size false) :=
    ⟨by simp, fun j oj _ hl => (by rw [getD_replicate_false] at hl; cases hl), fun t h1 h2 => by omega⟩
  have hl0 : left (Array.replicate l.toArray.size false) l.toArray.size = l.toArray.size := by
    unfold left
    rw [List.filter_eq_self.2 fun i _ => by rw [getD_replicate_false]; rfl]
    simp
  have fr0 : FrL l.toArray a Φ (Array.replicate l.toArray.size false) a w.drew :=
    ⟨rfl, rfl, fun _ _ => rfl, fun i _ h => (by rw [getD_replicate_false] at h; cases h)⟩
  have hg := fun V => lfl_get (a := a) (ops := l.toArray) (P := P) (K := K) (T := T) (Φ := Φ) (V := V) (l := l) rfl (rest := l) (i := 0) (fun j => by rw [Nat.zero_add]) (h V)
  have hll : l.length = l.toArray.size := by simp
  have A := any_of_lf (P := P) (Q := Q) (ops := l.toArray) (a0 := a) (K := K) (T := T) (Φ := Φ) hcong hKT hΦT hsel hlex hL hD
    (fun i hi V w => (hg V).1 i (Nat.zero_le _) (by rw [Nat.zero_add, hll]; exact hi) w)
    (fun V w hw => by
      have h9 := (hg V).2
      rw [Nat.zero_add, hll] at h9
      exact h9 w hw) l.toArray.size _ a w.drew hl0 inv0 fr0 (fun i hi _ => hK0 i hi)
  exact wp_region_any hm A
end
/-- only blocks of l are turned, and new ones made -/
structure Ch (w w' : World) (l : List Nat) : Prop where
  os : w'.os = w.os
  tape : w'.tape = w.tape
  output : w'.output = w.output
  size : w.heap.size ≤ w'.heap.size
  block : ∀ k, k < w.heap.size → k ∉ l → w'.heap[k]? = w.heap[k]?
theorem Ch.refl (w : World) (l : List Nat) : Ch w w l := ⟨rfl, rfl, rfl, Nat.le_refl _, fun _ _ _ => rfl⟩
theorem Ch.trans {w w1 w2 : World} {l : List Nat} (h1 : Ch w w1 l) (h2 : Ch w1 w2 l) : Ch w w2 l :=
  ⟨h2.os.trans h1.os, h2.tape.trans h1.tape, h2.output.trans h1.output, Nat.le_trans h1.size h2.size, fun k hk hl => (h2.block k (Nat.lt_of_lt_of_le hk h1.size) hl).trans (h1.block k hk hl)⟩
theorem Ch.of {w w' : World} {l : List Nat} (h : w.grownBy w' none) : Ch w w' l := ⟨h.os, h.tape, h.output, h.size, fun k hk _ => h.block k hk (by simp)⟩
theorem Ch.one {w w' : World} {b : Nat} {l : List Nat} (h : w.grownBy w' (some b)) (hb : b ∈ l) : Ch w w' l := ⟨h.os, h.tape, h.output, h.size, fun k hk hl => h.block k hk (by intro e; injection e with e; subst e; exact hl hb)⟩
theorem Ch.mono {w w' : World} {l l' : List Nat} (h : Ch w w' l) (hl : ∀ k, k < w.heap.size → k ∈ l → k ∈ l') : Ch w w' l' := ⟨h.os, h.tape, h.output, h.size, fun k hk hn => h.block k hk (fun hm => hn (hl k hk hm))⟩
theorem Ch.nil {w w' : World} {l : List Nat} (h : Ch w w' l) (hl : ∀ k, k ∈ l → w.heap.size ≤ k) : w.grownBy w' none := ⟨h.os, h.tape, h.output, h.size, fun k hk _ => h.block k hk (fun hm => by have := hl k hm; omega)⟩
theorem Ch.below {w w' : World} {l : List Nat} {N : Nat} (h : Ch w w' l) (hN : N ≤ w.heap.size) (hl : ∀ k, k ∈ l → N ≤ k) : Below N w w' := ⟨h.os, h.tape, h.output, h.size, fun k hk => h.block k (by omega) (fun hm => by have := hl k hm; omega)⟩
theorem Ch.new {w w1 w2 : World} {l : List Nat} (h1 : Ch w w1 l) {b : Nat} (hb : w.heap.size ≤ b) (h2 : w1.grownBy w2 (some b)) : Ch w w2 l :=
  ⟨h2.os.trans h1.os, h2.tape.trans h1.tape, h2.output.trans h1.output, Nat.le_trans h1.size h2.size, fun k hk hl => (h2.block k (Nat.lt_of_lt_of_le hk h1.size) (by intro e; injection e with e; omega)).trans (h1.block k hk hl)⟩
theorem Ch.cell {w w' : World} {l : List Nat} (h : Ch w w' l) {b o : Nat} {v : Value} (hc : w.cell? ⟨b, o, none⟩ = some v) (hb : b ∉ l) : w'.cell? ⟨b, o, none⟩ = some v := by
  have hlt := World.block_lt_of_cell? _ _ hc
  rw [← hc]
  exact World.cell?_of_block (h.block b hlt hb)
/-- numbers that lie in a row, below block N -/
structure NumIn (N : Nat) (w : World) (a : Option Addr) (n c : Nat) (M : Nat → Int) : Prop where
  le : n ≤ c
  max : c ≤ maxLen
  lie : n = 0 ∨ ∃ b off, a = some ⟨b, off, none⟩ ∧ b < N ∧ ∀ i, i < n → w.cell? ⟨b, off + i, none⟩ = some (.int .i64 (M i))
theorem NumIn.ch {N : Nat} {w w' : World} {a : Option Addr} {n c : Nat} {M : Nat → Int} {l : List Nat} (h : NumIn N w a n c M) (hg : Ch w w' l) (hl : ∀ k, k ∈ l → N ≤ k) : NumIn N w' a n c M :=
  ⟨h.le, h.max, by
    rcases h.lie with h0 | ⟨b, off, e, hb, hi⟩
    · exact .inl h0
    · exact .inr ⟨b, off, e, hb, fun i hi' => hg.cell (hi i hi') (fun hm => by have := hl b hm; omega)⟩⟩
/-- numbers of the call's own -/
def OwnN (w : World) (base : Nat) (v : Value) (n : Nat) (g : Nat → Int) : Prop := w.ownsRow base 3 1 v n ((List.range n).map fun i => Value.int .i64 (g i))
/-- .. as a list -/
def OwnZ (w : World) (base : Nat) (v : Value) (l : List Int) : Prop := w.ownsRow base 3 1 v l.length (l.map (Value.int .i64))
theorem OwnZ.n {w : World} {base : Nat} {v : Value} {l : List Int} (h : OwnZ w base v l) : OwnN w base v l.length (fun i => l.getD i 0) := by
  unfold OwnN
  have e : (List.range l.length).map (fun i => Value.int .i64 (l.getD i 0)) = l.map (Value.int .i64) := by
    refine List.ext_getElem (by simp) fun i h1 h2 => ?_
    simp at h1
    simp [List.getD_eq_getElem?_getD, List.getElem?_eq_getElem h1]
  rw [e]
  exact h
theorem OwnN.z {w : World} {base n : Nat} {v : Value} {g : Nat → Int} (h : OwnN w base v n g) : OwnZ w base v ((List.range n).map g) := by
  unfold OwnZ
  rw [List.length_map, List.length_range, List.map_map]
  exact h
theorem OwnN.congr {w : World} {base n : Nat} {v : Value} {g g' : Nat → Int} (h : OwnN w base v n g) (e : ∀ i, i < n → g i = g' i) : OwnN w base v n g' := by
  unfold OwnN at h ⊢
  rw [show (List.range n).map (fun i => Value.int .i64 (g' i)) = (List.range n).map (fun i => Value.int .i64 (g i)) from List.map_congr_left fun i hi => by rw [e i (List.mem_range.1 hi)]]
  exact h
theorem OwnN.low {w : World} {base base' n : Nat} {v : Value} {g : Nat → Int} (h : OwnN w base v n g) (hb : base' ≤ base) : OwnN w base' v n g := World.ownsRow.mono h hb
theorem OwnZ.low {w : World} {base base' : Nat} {v : Value} {l : List Int} (h : OwnZ w base v l) (hb : base' ≤ base) : OwnZ w base' v l := World.ownsRow.mono h hb
theorem ownsRow_ch {w w' : World} {l : List Nat} {base : Nat} {e : TypeId} {size n : Nat} {v : Value} {xs : List Value} (h : w.ownsRow base e size v n xs) (hg : Ch w w' l) (hne : ∀ k, v.ownBlock = some k → k ∉ l) : w'.ownsRow base e size v n xs := by
  refine ⟨h.1, ?_⟩
  rcases h.2 with h0 | ⟨g, cap, cur, e1, e2, e3, e4⟩
  · exact .inl h0
  · have hlt : g < w.heap.size := (World.ownsRow.lt h g (by rw [e1]; rfl)).2
    exact .inr ⟨g, cap, cur, e1, e2, (hg.block g hlt (hne g (by rw [e1]; rfl))).trans e3, e4⟩
theorem OwnN.ch {w w' : World} {l : List Nat} {base n : Nat} {v : Value} {g : Nat → Int} (h : OwnN w base v n g) (hg : Ch w w' l) (hne : ∀ k, v.ownBlock = some k → k ∉ l) : OwnN w' base v n g := ownsRow_ch h hg hne
theorem OwnZ.ch {w w' : World} {l : List Nat} {base : Nat} {v : Value} {z : List Int} (h : OwnZ w base v z) (hg : Ch w w' l) (hne : ∀ k, v.ownBlock = some k → k ∉ l) : OwnZ w' base v z := ownsRow_ch h hg hne
theorem OwnN.grow {w w' : World} {base n : Nat} {v : Value} {g : Nat → Int} (h : OwnN w base v n g) (hg : w.grownBy w' none) : OwnN w' base v n g := World.ownsRow.kept h hg (Classical.em _)
theorem OwnZ.grow {w w' : World} {base : Nat} {v : Value} {l : List Int} (h : OwnZ w base v l) (hg : w.grownBy w' none) : OwnZ w' base v l := World.ownsRow.kept h hg (Classical.em _)
theorem OwnN.base {w : World} {base n : Nat} {v : Value} {g : Nat → Int} (h : OwnN w base v n g) : ∀ k, v.ownBlock = some k → base ≤ k := fun k hk => (World.ownsRow.lt h k hk).1
theorem OwnZ.base {w : World} {base : Nat} {v : Value} {l : List Int} (h : OwnZ w base v l) : ∀ k, v.ownBlock = some k → base ≤ k := fun k hk => (World.ownsRow.lt h k hk).1
theorem OwnN.lt {w : World} {base n : Nat} {v : Value} {g : Nat → Int} (h : OwnN w base v n g) : ∀ k, v.ownBlock = some k → k < w.heap.size := fun k hk => (World.ownsRow.lt h k hk).2
theorem OwnZ.lt {w : World} {base : Nat} {v : Value} {l : List Int} (h : OwnZ w base v l) : ∀ k, v.ownBlock = some k → k < w.heap.size := fun k hk => (World.ownsRow.lt h k hk).2
theorem OwnN.slice {w : World} {base n : Nat} {v : Value} {g : Nat → Int} (h : OwnN w base v n g) : ∃ a c, v = .slice a n c ∧ n ≤ c ∧ c ≤ maxLen ∧ (0 < n → ∃ T, a = some ⟨T, 0, none⟩ ∧ base ≤ T ∧ T < w.heap.size) := by
  rcases h.2 with ⟨rfl, h0⟩ | ⟨T, c, cur, rfl, e2, e3, e4, e5, _⟩
  · exact ⟨none, 0, by rw [h0], by omega, Nat.zero_le _, fun h => by omega⟩
  · exact ⟨some ⟨T, 0, none⟩, c, rfl, e4, e5, fun _ => ⟨T, rfl, e2, (World.ownsRow.lt h T rfl).2⟩⟩
theorem OwnZ.slice {w : World} {base : Nat} {v : Value} {l : List Int} (h : OwnZ w base v l) : ∃ a c, v = .slice a l.length c ∧ l.length ≤ c ∧ c ≤ maxLen ∧ (0 < l.length → ∃ T, a = some ⟨T, 0, none⟩ ∧ base ≤ T ∧ T < w.heap.size) := h.n.slice
theorem OwnN.cell {w : World} {base n c T : Nat} {g : Nat → Int} (h : OwnN w base (.slice (some ⟨T, 0, none⟩) n c) n g) {i : Nat} (hi : i < n) : w.cell? ⟨T, i, none⟩ = some (.int .i64 (g i)) := by
  rw [World.ownsRow.cellAt h i (by omega), List.getElem?_map, List.getElem?_range hi]
  rfl
theorem OwnN.frozen {w : World} {base n c T : Nat} {g : Nat → Int} (h : OwnN w base (.slice (some ⟨T, 0, none⟩) n c) n g) (i : Nat) : w.frozen? ⟨T, i, none⟩ = false := World.ownsRow.frozenAt h i
def setF (g : Nat → Int) (i : Nat) (x : Int) : Nat → Int := fun k => if k = i then x else g k
theorem grown_set (w : World) (T i : Nat) (u : Value) : w.grownBy (w.setCell ⟨T, i, none⟩ u) (some T) := grown_setCell _ _ _ _
theorem OwnN.set {w : World} {base n c T : Nat} {g : Nat → Int} (h : OwnN w base (.slice (some ⟨T, 0, none⟩) n c) n g) {i : Nat} (hi : i < n) (x : Int) : OwnN (w.setCell ⟨T, i, none⟩ (.int .i64 x)) base (.slice (some ⟨T, 0, none⟩) n c) n (setF g i x) := by
  have := (World.ownsRow.stored h i (.int .i64 x)).1
  unfold OwnN
  rw [show (List.range n).map (fun k => Value.int .i64 (setF g i x k)) = ((List.range n).map fun k => Value.int .i64 (g k)).set i (.int .i64 x) from ?_]
  · exact this
  · refine List.ext_getElem (by simp) fun k h1 h2 => ?_
    simp at h1
    simp [setF, List.getElem_set]
    by_cases e : k = i
    · subst e; simp
    · simp [e, Ne.symm e]
theorem info_int : (Try.prog.info? 3).map (fun i => (i.zero, i.size, i.bytes)) = some (some (.int .i64 0), 1, 8) := by kernel_rfl
theorem run_make_n (w : World) (n : Nat) (hn : (n : Int) ≤ 8796093022208) : ∃ w1, (Instr.makeSlice 24 (.int .i64 n) (.int .i64 n)).run Try.prog w = .ok (.slice (some ⟨w.heap.size, 0, none⟩) n n) w1 ∧ OwnN w1 w.heap.size (.slice (some ⟨w.heap.size, 0, none⟩) n n) n (fun _ => 0) ∧ w.grownBy w1 none := by
  obtain ⟨i, hi, hz0, hz1, hz2⟩ := info_parts info_int
  have := run_make (P := Try.prog) w 24 3 i (.int .i64 0) Try.underlying24 hi hz0 .i64 .i64 n n (by omega) (by omega) (by rw [hz2]; omega) (by omega)
  rw [hz1] at this
  simp only [Int.toNat_natCast, Nat.mul_one] at this
  refine ⟨_, this, ?_, World.grownBy_alloc _ _ _⟩
  have e : madeCells (Value.int .i64 0).cells n = ((List.range n).map fun _ => Value.int .i64 0).toArray := by
    apply Array.ext
    · simp [madeCells]
    · intro k h1 h2
      simp [madeCells, Value.cells, Nat.mod_one]
  rw [e]
  have := World.ownsRow_lit (base := w.heap.size) (e := 3) (size := 1) w ((List.range n).map fun _ => Value.int .i64 0).toArray n (Nat.le_refl _) (by unfold maxLen; omega) (by simp)
  simpa [OwnN] using this
theorem NumIn.at {N : Nat} {w : World} {a : Option Addr} {n c : Nat} {M : Nat → Int} (h : NumIn N w a n c M) {i : Nat} (hi : i < n) : ∃ b off, a = some ⟨b, off, none⟩ ∧ b < N ∧ w.cell? ⟨b, off + i, none⟩ = some (.int .i64 (M i)) := by
  rcases h.lie with h0 | ⟨b, off, e, hb, hh⟩
  · omega
  · exact ⟨b, off, e, hb, hh i hi⟩
/-- numbers of one's own, appended to numbers of one's own -/
theorem wp_appZs {ops : Array Oper} {rest : List Oper} {o : Oper} {a : Act} {Q : Exit → Act → World → Prop} {W : World} (hgd : o.guard = none) (s x : Operand)
    (ho : o.op = .call { callee := .builtin .append, args := #[s, x], argTypes := #[24, 24] }) (base : Nat) (v u : Value) (l m : List Int) (b2 : Nat) (hs : a.eval s = v) (hown : OwnZ W base v l)
    (hx : a.eval x = u) (hsrc : OwnZ W b2 u m) (hl : l.length ≤ 2000000) (hm : m.length ≤ 2000000) (hb : base ≤ W.heap.size)
    (h : ∀ v' w', OwnZ w' base v' (l ++ m) → W.grownBy w' v.ownBlock → wpList Try.prog ops Q rest (a.put o.dst v') w') : wpList Try.prog ops Q (o :: rest) a W := by
  obtain ⟨i, hi, hz0, hz1, hz2⟩ := info_parts info_int
  rcases hsrc.2 with ⟨rfl, h0⟩ | ⟨T, c, cur, rfl, _⟩
  · have : m = [] := List.length_eq_zero_iff.1 h0
    subst this
    refine wpList_append_own_none hgd s x 24 ho base 3 i 1 Try.underlying24 hi v l.length (l.map (Value.int .i64)) hs hown hx ?_
    exact h v W (by rw [List.append_nil]; exact hown) (World.grownBy.refl _ _)
  · refine wpList_append_own _ hgd s x 24 ho base 3 i (.int .i64 0) 1 8 Try.underlying24 hi hz0 hz1 hz2 rfl (by decide) v l.length (l.map (Value.int .i64)) hs hown ⟨T, 0, none⟩ m.length c (m.map (Value.int .i64)) hx (by simp)
      (fun j y hj => World.ownsRow.cells hsrc rfl j y hj) (by intro y hy; obtain ⟨z, _, rfl⟩ := List.mem_map.mp hy; rfl) (by unfold maxLen; omega) (by omega) hb ?_
    intro v' w2 ho2 hg2 _
    refine h v' w2 ?_ hg2
    unfold OwnZ
    rw [List.length_append, List.map_append]
    exact ho2
namespace Pg
/-- a term -/
inductive Ex where
  | mk (op t n : Int) (s : ByteArray) (args : List Ex)
/-- a statement -/
inductive St where
  | mk (op n : Int) (args : List Ex) (dst : List Int) (a b : List St)
def Ex.op : Ex → Int
  | .mk op _ _ _ _ => op
def Ex.t : Ex → Int
  | .mk _ t _ _ _ => t
def Ex.n : Ex → Int
  | .mk _ _ n _ _ => n
def Ex.s : Ex → ByteArray
  | .mk _ _ _ s _ => s
def Ex.args : Ex → List Ex
  | .mk _ _ _ _ l => l
def St.op : St → Int
  | .mk op _ _ _ _ _ => op
def St.n : St → Int
  | .mk _ n _ _ _ _ => n
def St.args : St → List Ex
  | .mk _ _ l _ _ _ => l
def St.dst : St → List Int
  | .mk _ _ _ d _ _ => d
def St.a : St → List St
  | .mk _ _ _ _ a _ => a
def St.b : St → List St
  | .mk _ _ _ _ _ b => b
theorem Ex.ind {P : Ex → Prop} (h : ∀ op t n s args, (∀ x, x ∈ args → P x) → P (.mk op t n s args)) : ∀ x, P x
  | .mk op t n s args => h op t n s args fun x hx => Ex.ind h x
theorem St.ind {P : St → Prop} (h : ∀ op n args dst a b, (∀ x, x ∈ a → P x) → (∀ x, x ∈ b → P x) → P (.mk op n args dst a b)) : ∀ x, P x
  | .mk op n args dst a b => h op n args dst a b (fun x hx => St.ind h x) (fun x hx => St.ind h x)
/-- an entry of types, a function, a program -/
structure Tp where
  kind : Int
  elem : Int
  n : Int
  fields : List Int
structure Fn where
  params : Int
  locals : List Int
  results : List Int
  body : List St
structure Pr where
  types : List Tp
  funcs : List Fn
end Pg
/-- a row of things of c cells, by' bytes each; its block is one of B -/
structure RowL {α : Type} (c by' : Nat) (B : Nat → Prop) (Q : Nat → Nat → α → Prop) (a : Option Addr) (cap : Nat) (l : List α) : Prop where
  nil : a = none → l = [] ∧ cap = 0
  le : l.length ≤ cap
  max : cap ≤ maxLen
  fits : l.length * by' ≤ reachBytes
  lie : l = [] ∨ ∃ b o, a = some ⟨b, o, none⟩ ∧ B b ∧ ∀ i x, l[i]? = some x → Q b (o + i * c) x
theorem RowL.mono {α : Type} {c by' : Nat} {B B' : Nat → Prop} {Q Q' : Nat → Nat → α → Prop} {a : Option Addr} {cap : Nat} {l : List α} (h : RowL c by' B Q a cap l) (hB : ∀ k, B k → B' k) (hQ : ∀ b o x, B b → x ∈ l → Q b o x → Q' b o x) : RowL c by' B' Q' a cap l :=
  ⟨h.nil, h.le, h.max, h.fits, by
    rcases h.lie with h0 | ⟨b, o, e, hb, hx⟩
    · exact .inl h0
    · exact .inr ⟨b, o, e, hB b hb, fun i x hi => hQ _ _ _ hb (List.mem_of_getElem? hi) (hx i x hi)⟩⟩
theorem RowL.at {α : Type} {c by' : Nat} {B : Nat → Prop} {Q : Nat → Nat → α → Prop} {a : Option Addr} {cap : Nat} {l : List α} (h : RowL c by' B Q a cap l) {i : Nat} (hi : i < l.length) : ∃ b o, a = some ⟨b, o, none⟩ ∧ B b ∧ Q b (o + i * c) l[i] := by
  rcases h.lie with h0 | ⟨b, o, e, hb, hx⟩
  · subst h0; simp at hi
  · exact ⟨b, o, e, hb, hx i _ (List.getElem?_eq_getElem hi)⟩
/-- numbers in a row -/
def NumQ (W : World) (b o : Nat) (z : Int) : Prop := W.cell? ⟨b, o, none⟩ = some (.int .i64 z)
abbrev NumL (B : Nat → Prop) (W : World) (a : Option Addr) (cap : Nat) (l : List Int) : Prop := RowL 1 8 B (NumQ W) a cap l
def R64 (n : Int) : Prop := -9223372036854775808 ≤ n ∧ n ≤ 9223372036854775807
/-- a term, as it lies; the blocks of what is in it are of B -/
inductive ExAt (B : Nat → Prop) (W : World) : Nat → Nat → Pg.Ex → Prop
  | mk {b o : Nat} {op t n : Int} {s : ByteArray} {args : List Pg.Ex} {a : Option Addr} {c b' o' : Nat}
    (c0 : W.cell? ⟨b, o, none⟩ = some (.int .i64 op)) (c1 : W.cell? ⟨b, o + 1, none⟩ = some (.int .i64 t)) (c2 : W.cell? ⟨b, o + 2, none⟩ = some (.int .i64 n)) (c3 : W.cell? ⟨b, o + 3, none⟩ = some (.string s)) (c4 : W.cell? ⟨b, o + 4, none⟩ = some (.slice a args.length c))
    (rg : R64 n) (sz : s.size ≤ reachBytes) (nil : a = none → args = [] ∧ c = 0) (le : args.length ≤ c) (max : c ≤ maxLen) (fits : args.length * 64 ≤ reachBytes) (pl : args ≠ [] → a = some ⟨b', o', none⟩ ∧ B b')
    (all : ∀ i x, args[i]? = some x → ExAt B W b' (o' + i * 5) x) : ExAt B W b o (.mk op t n s args)
abbrev ExL (B : Nat → Prop) (W : World) (a : Option Addr) (cap : Nat) (l : List Pg.Ex) : Prop := RowL 5 64 B (ExAt B W) a cap l
/-- what lies at a term -/
structure ExC (B : Nat → Prop) (W : World) (b o : Nat) (x : Pg.Ex) (a : Option Addr) (c : Nat) : Prop where
  c0 : W.cell? ⟨b, o, none⟩ = some (.int .i64 x.op)
  c1 : W.cell? ⟨b, o + 1, none⟩ = some (.int .i64 x.t)
  c2 : W.cell? ⟨b, o + 2, none⟩ = some (.int .i64 x.n)
  c3 : W.cell? ⟨b, o + 3, none⟩ = some (.string x.s)
  c4 : W.cell? ⟨b, o + 4, none⟩ = some (.slice a x.args.length c)
  rg : R64 x.n
  sz : x.s.size ≤ reachBytes
  args : ExL B W a c x.args
theorem ExAt.row {B : Nat → Prop} {W : World} {b o : Nat} {x : Pg.Ex} (h : ExAt B W b o x) : ∃ a c, ExC B W b o x a c := by
  cases h with
  | mk c0 c1 c2 c3 c4 rg sz nil le max fits pl all =>
    refine ⟨_, _, c0, c1, c2, c3, c4, rg, sz, nil, le, max, fits, ?_⟩
    rename_i args _ _ _ _
    by_cases h0 : args = []
    · exact .inl h0
    · exact .inr ⟨_, _, (pl h0).1, (pl h0).2, all⟩
theorem ExC.at {B : Nat → Prop} {W : World} {b o : Nat} {x : Pg.Ex} {a : Option Addr} {c : Nat} (h : ExC B W b o x a c) : ExAt B W b o x := by
  obtain ⟨op, t, n, s, args⟩ := x
  obtain ⟨c0, c1, c2, c3, c4, rg, sz, h⟩ := h
  rcases h.lie with h0 | ⟨b', o', e, hb, hx⟩
  · exact .mk (b' := 0) (o' := 0) c0 c1 c2 c3 c4 rg sz h.nil h.le h.max h.fits (fun hn => absurd h0 hn) (fun i x hi => by rw [show args = [] from h0] at hi; simp at hi)
  · exact .mk c0 c1 c2 c3 c4 rg sz h.nil h.le h.max h.fits (fun _ => ⟨e, hb⟩) hx
theorem ExAt.ch {B B' : Nat → Prop} {W W' : World} {l : List Nat} (hg : Ch W W' l) (hl : ∀ k, B k → k ∉ l) (hB : ∀ k, B k → B' k) : ∀ {b o : Nat} {x : Pg.Ex}, ExAt B W b o x → b ∉ l → ExAt B' W' b o x
  | _, _, _, .mk c0 c1 c2 c3 c4 rg sz nil le max fits pl all, hb =>
    .mk (hg.cell c0 hb) (hg.cell c1 hb) (hg.cell c2 hb) (hg.cell c3 hb) (hg.cell c4 hb) rg sz nil le max fits (fun h => ⟨(pl h).1, hB _ (pl h).2⟩) (fun i x hi => ExAt.ch hg hl hB (all i x hi) (hl _ (pl (by intro h; rw [h] at hi; simp at hi)).2))
theorem ExL.ch {B B' : Nat → Prop} {W W' : World} {l : List Nat} {a : Option Addr} {cap : Nat} {xs : List Pg.Ex} (h : ExL B W a cap xs) (hg : Ch W W' l) (hl : ∀ k, B k → k ∉ l) (hB : ∀ k, B k → B' k) : ExL B' W' a cap xs := h.mono hB (fun b o x hb _ hx => ExAt.ch hg hl hB hx (hl b hb))
theorem NumL.ch {B B' : Nat → Prop} {W W' : World} {l : List Nat} {a : Option Addr} {cap : Nat} {xs : List Int} (h : NumL B W a cap xs) (hg : Ch W W' l) (hl : ∀ k, B k → k ∉ l) (hB : ∀ k, B k → B' k) : NumL B' W' a cap xs := h.mono hB (fun b o x hb _ hx => hg.cell hx (hl b hb))
/-- a statement, as it lies -/
inductive StAt (B : Nat → Prop) (W : World) : Nat → Nat → Pg.St → Prop
  | mk {b o : Nat} {op n : Int} {args : List Pg.Ex} {dst : List Int} {xa xb : List Pg.St} {a1 a2 a3 a4 : Option Addr} {k1 k2 k3 k4 b3 o3 b4 o4 : Nat}
    (c0 : W.cell? ⟨b, o, none⟩ = some (.int .i64 op)) (c1 : W.cell? ⟨b, o + 1, none⟩ = some (.int .i64 n)) (c2 : W.cell? ⟨b, o + 2, none⟩ = some (.slice a1 args.length k1)) (c3 : W.cell? ⟨b, o + 3, none⟩ = some (.slice a2 dst.length k2)) (c4 : W.cell? ⟨b, o + 4, none⟩ = some (.slice a3 xa.length k3)) (c5 : W.cell? ⟨b, o + 5, none⟩ = some (.slice a4 xb.length k4))
    (rg : R64 n) (h1 : ExL B W a1 k1 args) (h2 : NumL B W a2 k2 dst)
    (n3 : a3 = none → xa = [] ∧ k3 = 0) (l3 : xa.length ≤ k3) (m3 : k3 ≤ maxLen) (f3 : xa.length * 112 ≤ reachBytes) (p3 : xa ≠ [] → a3 = some ⟨b3, o3, none⟩ ∧ B b3) (q3 : ∀ i x, xa[i]? = some x → StAt B W b3 (o3 + i * 6) x)
    (n4 : a4 = none → xb = [] ∧ k4 = 0) (l4 : xb.length ≤ k4) (m4 : k4 ≤ maxLen) (f4 : xb.length * 112 ≤ reachBytes) (p4 : xb ≠ [] → a4 = some ⟨b4, o4, none⟩ ∧ B b4) (q4 : ∀ i x, xb[i]? = some x → StAt B W b4 (o4 + i * 6) x) : StAt B W b o (.mk op n args dst xa xb)
abbrev StL (B : Nat → Prop) (W : World) (a : Option Addr) (cap : Nat) (l : List Pg.St) : Prop := RowL 6 112 B (StAt B W) a cap l
/-- what lies at a statement -/
structure StC (B : Nat → Prop) (W : World) (b o : Nat) (x : Pg.St) (a1 a2 a3 a4 : Option Addr) (k1 k2 k3 k4 : Nat) : Prop where
  c0 : W.cell? ⟨b, o, none⟩ = some (.int .i64 x.op)
  c1 : W.cell? ⟨b, o + 1, none⟩ = some (.int .i64 x.n)
  c2 : W.cell? ⟨b, o + 2, none⟩ = some (.slice a1 x.args.length k1)
  c3 : W.cell? ⟨b, o + 3, none⟩ = some (.slice a2 x.dst.length k2)
  c4 : W.cell? ⟨b, o + 4, none⟩ = some (.slice a3 x.a.length k3)
  c5 : W.cell? ⟨b, o + 5, none⟩ = some (.slice a4 x.b.length k4)
  rg : R64 x.n
  args : ExL B W a1 k1 x.args
  dst : NumL B W a2 k2 x.dst
  a : StL B W a3 k3 x.a
  b : StL B W a4 k4 x.b
theorem StAt.row {B : Nat → Prop} {W : World} {b o : Nat} {x : Pg.St} (h : StAt B W b o x) : ∃ a1 a2 a3 a4 k1 k2 k3 k4, StC B W b o x a1 a2 a3 a4 k1 k2 k3 k4 := by
  cases h with
  | mk c0 c1 c2 c3 c4 c5 rg h1 h2 n3 l3 m3 f3 p3 q3 n4 l4 m4 f4 p4 q4 =>
    refine ⟨_, _, _, _, _, _, _, _, c0, c1, c2, c3, c4, c5, rg, h1, h2, ⟨n3, l3, m3, f3, ?_⟩, ⟨n4, l4, m4, f4, ?_⟩⟩
    · rename_i xa xb _ _ _ _ _ _ _ _ _ _ _ _
      by_cases h0 : xa = []
      · exact .inl h0
      · exact .inr ⟨_, _, (p3 h0).1, (p3 h0).2, q3⟩
    · rename_i xa xb _ _ _ _ _ _ _ _ _ _ _ _
      by_cases h0 : xb = []
      · exact .inl h0
      · exact .inr ⟨_, _, (p4 h0).1, (p4 h0).2, q4⟩
theorem StC.at {B : Nat → Prop} {W : World} {b o : Nat} {x : Pg.St} {a1 a2 a3 a4 : Option Addr} {k1 k2 k3 k4 : Nat} (h : StC B W b o x a1 a2 a3 a4 k1 k2 k3 k4) : StAt B W b o x := by
  obtain ⟨op, n, args, dst, xa, xb⟩ := x
  obtain ⟨c0, c1, c2, c3, c4, c5, rg, h1, h2, h3, h4⟩ := h
  have g : ∀ {a : Option Addr} {k : Nat} {l : List Pg.St}, StL B W a k l → ∃ b' o', (l ≠ [] → a = some ⟨b', o', none⟩ ∧ B b') ∧ ∀ i x, l[i]? = some x → StAt B W b' (o' + i * 6) x := by
    intro a k l h
    rcases h.lie with h0 | ⟨b', o', e, hb, hx⟩
    · exact ⟨0, 0, fun hn => absurd h0 hn, fun i x hi => by rw [h0] at hi; simp at hi⟩
    · exact ⟨b', o', fun _ => ⟨e, hb⟩, hx⟩
  obtain ⟨b3, o3, p3, q3⟩ := g h3
  obtain ⟨b4, o4, p4, q4⟩ := g h4
  exact .mk c0 c1 c2 c3 c4 c5 rg h1 h2 h3.nil h3.le h3.max h3.fits p3 q3 h4.nil h4.le h4.max h4.fits p4 q4
theorem StAt.ch {B B' : Nat → Prop} {W W' : World} {l : List Nat} (hg : Ch W W' l) (hl : ∀ k, B k → k ∉ l) (hB : ∀ k, B k → B' k) : ∀ {b o : Nat} {x : Pg.St}, StAt B W b o x → b ∉ l → StAt B' W' b o x
  | _, _, _, .mk c0 c1 c2 c3 c4 c5 rg h1 h2 n3 l3 m3 f3 p3 q3 n4 l4 m4 f4 p4 q4, hb =>
    .mk (hg.cell c0 hb) (hg.cell c1 hb) (hg.cell c2 hb) (hg.cell c3 hb) (hg.cell c4 hb) (hg.cell c5 hb) rg (ExL.ch h1 hg hl hB) (NumL.ch h2 hg hl hB)
      n3 l3 m3 f3 (fun h => ⟨(p3 h).1, hB _ (p3 h).2⟩) (fun i x hi => StAt.ch hg hl hB (q3 i x hi) (hl _ (p3 (by intro h; rw [h] at hi; simp at hi)).2))
      n4 l4 m4 f4 (fun h => ⟨(p4 h).1, hB _ (p4 h).2⟩) (fun i x hi => StAt.ch hg hl hB (q4 i x hi) (hl _ (p4 (by intro h; rw [h] at hi; simp at hi)).2))
theorem StL.ch {B B' : Nat → Prop} {W W' : World} {l : List Nat} {a : Option Addr} {cap : Nat} {xs : List Pg.St} (h : StL B W a cap xs) (hg : Ch W W' l) (hl : ∀ k, B k → k ∉ l) (hB : ∀ k, B k → B' k) : StL B' W' a cap xs := h.mono hB (fun b o x hb _ hx => StAt.ch hg hl hB hx (hl b hb))
/-- an entry of types, as it lies -/
structure TpC (B : Nat → Prop) (W : World) (b o : Nat) (x : Pg.Tp) (a : Option Addr) (k : Nat) : Prop where
  c0 : W.cell? ⟨b, o, none⟩ = some (.int .i64 x.kind)
  c1 : W.cell? ⟨b, o + 1, none⟩ = some (.int .i64 x.elem)
  c2 : W.cell? ⟨b, o + 2, none⟩ = some (.int .i64 x.n)
  c3 : W.cell? ⟨b, o + 3, none⟩ = some (.slice a x.fields.length k)
  f : NumL B W a k x.fields
def TpAt (B : Nat → Prop) (W : World) (b o : Nat) (x : Pg.Tp) : Prop := ∃ a k, TpC B W b o x a k
abbrev TpL (B : Nat → Prop) (W : World) (a : Option Addr) (cap : Nat) (l : List Pg.Tp) : Prop := RowL 4 48 B (TpAt B W) a cap l
theorem TpAt.ch {B B' : Nat → Prop} {W W' : World} {l : List Nat} (hg : Ch W W' l) (hl : ∀ k, B k → k ∉ l) (hB : ∀ k, B k → B' k) {b o : Nat} {x : Pg.Tp} (h : TpAt B W b o x) (hb : b ∉ l) : TpAt B' W' b o x := by
  obtain ⟨a, k, h⟩ := h
  exact ⟨a, k, hg.cell h.c0 hb, hg.cell h.c1 hb, hg.cell h.c2 hb, hg.cell h.c3 hb, NumL.ch h.f hg hl hB⟩
theorem TpL.ch {B B' : Nat → Prop} {W W' : World} {l : List Nat} {a : Option Addr} {cap : Nat} {xs : List Pg.Tp} (h : TpL B W a cap xs) (hg : Ch W W' l) (hl : ∀ k, B k → k ∉ l) (hB : ∀ k, B k → B' k) : TpL B' W' a cap xs := h.mono hB (fun b o x hb _ hx => TpAt.ch hg hl hB hx (hl b hb))
/-- a function, as it lies -/
structure FnC (B : Nat → Prop) (W : World) (b o : Nat) (x : Pg.Fn) (a1 a2 a3 : Option Addr) (k1 k2 k3 : Nat) : Prop where
  c0 : W.cell? ⟨b, o, none⟩ = some (.int .i64 x.params)
  c1 : W.cell? ⟨b, o + 1, none⟩ = some (.slice a1 x.locals.length k1)
  c2 : W.cell? ⟨b, o + 2, none⟩ = some (.slice a2 x.results.length k2)
  c3 : W.cell? ⟨b, o + 3, none⟩ = some (.slice a3 x.body.length k3)
  l : NumL B W a1 k1 x.locals
  r : NumL B W a2 k2 x.results
  b : StL B W a3 k3 x.body
def FnAt (B : Nat → Prop) (W : World) (b o : Nat) (x : Pg.Fn) : Prop := ∃ a1 a2 a3 k1 k2 k3, FnC B W b o x a1 a2 a3 k1 k2 k3
abbrev FnL (B : Nat → Prop) (W : World) (a : Option Addr) (cap : Nat) (l : List Pg.Fn) : Prop := RowL 4 80 B (FnAt B W) a cap l
theorem FnAt.ch {B B' : Nat → Prop} {W W' : World} {l : List Nat} (hg : Ch W W' l) (hl : ∀ k, B k → k ∉ l) (hB : ∀ k, B k → B' k) {b o : Nat} {x : Pg.Fn} (h : FnAt B W b o x) (hb : b ∉ l) : FnAt B' W' b o x := by
  obtain ⟨a1, a2, a3, k1, k2, k3, h⟩ := h
  exact ⟨a1, a2, a3, k1, k2, k3, hg.cell h.c0 hb, hg.cell h.c1 hb, hg.cell h.c2 hb, hg.cell h.c3 hb, NumL.ch h.l hg hl hB, NumL.ch h.r hg hl hB, StL.ch h.b hg hl hB⟩
theorem FnL.ch {B B' : Nat → Prop} {W W' : World} {l : List Nat} {a : Option Addr} {cap : Nat} {xs : List Pg.Fn} (h : FnL B W a cap xs) (hg : Ch W W' l) (hl : ∀ k, B k → k ∉ l) (hB : ∀ k, B k → B' k) : FnL B' W' a cap xs := h.mono hB (fun b o x hb _ hx => FnAt.ch hg hl hB hx (hl b hb))
/-- a program, as it is handed over: its two rows -/
structure PrC (B : Nat → Prop) (W : World) (x : Pg.Pr) (a1 a2 : Option Addr) (k1 k2 : Nat) : Prop where
  t : TpL B W a1 k1 x.types
  f : FnL B W a2 k2 x.funcs
theorem PrC.ch {B B' : Nat → Prop} {W W' : World} {l : List Nat} (hg : Ch W W' l) (hl : ∀ k, B k → k ∉ l) (hB : ∀ k, B k → B' k) {x : Pg.Pr} {a1 a2 : Option Addr} {k1 k2 : Nat} (h : PrC B W x a1 a2 k1 k2) : PrC B' W' x a1 a2 k1 k2 := ⟨TpL.ch h.t hg hl hB, FnL.ch h.f hg hl hB⟩
def PrAt (B : Nat → Prop) (W : World) (b o : Nat) (x : Pg.Pr) : Prop := ∃ a1 a2 k1 k2, W.cell? ⟨b, o, none⟩ = some (.slice a1 x.types.length k1) ∧ W.cell? ⟨b, o + 1, none⟩ = some (.slice a2 x.funcs.length k2) ∧ PrC B W x a1 a2 k1 k2
end Go.Proofs.Ytbpdggdpgohilaa
