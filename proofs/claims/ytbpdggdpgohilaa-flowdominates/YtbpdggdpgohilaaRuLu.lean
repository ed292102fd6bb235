/- A region that draws its order, of which one operation alone changes what stands; all others come up ahead of it or behind it. -/
import Derived.Test.YtbpdggdpgohilaaG4
namespace Go.Proofs.Ytbpdggdpgohilaa
open Go.RowKit
set_option linter.unusedVariables false

/-- what an operation may do to the world -/
def Rof (R G : World → World → Prop) (u i : Nat) : World → World → Prop := if i = u then R else G
theorem Rof_R {R G : World → World → Prop} {u i : Nat} {w w' : World} (hGR : G w w' → R w w') (h : Rof R G u i w w') : R w w' := by
  unfold Rof at h
  split at h
  · exact h
  · exact hGR h
theorem Rof_G {R G : World → World → Prop} {u i : Nat} {w w' : World} (hGR : G w w' → R w w') (h : G w w') : Rof R G u i w w' := by
  unfold Rof
  split
  · exact hGR h
  · exact h
theorem Rof_flip {R G : World → World → Prop} {u i j : Nat} {w w' : World} (hGR : G w w' → R w w') (hne : j ≠ i) (h : Rof R G u i w w') : Rof G R u j w w' := by
  by_cases hj : j = u
  · unfold Rof at h ⊢
    rw [if_pos hj]
    rwa [if_neg (by omega)] at h
  · have := Rof_R hGR h
    unfold Rof
    rwa [if_neg hj]
section
variable {P : Program} {ops : Array Oper} {R G : World → World → Prop} {K0 : World → Prop}
set_option maxHeartbeats 2000000 in
theorem any_of_lu (htr : ∀ {w w1 w2 : World}, R w w1 → R w1 w2 → R w w2) (hrf : ∀ w : World, G w w) (hGR : ∀ {w w' : World}, G w w' → R w w') (hGK : ∀ {w w' : World}, G w w' → K0 w → K0 w') {u : Nat} {n : Nat} {a0 : Act} {W : World} {Q : Exit → Act → World → Prop} {Ψ : Nat → Value → World → Prop} {Z : List PanicEntry → World → Prop} (hZ : ∀ c a w, a.defers = a0.defers → Z c w → Q (.panic c) a w) {l : List Oper} (hl : ops = l.toArray)
    (hst : ∀ j i v w w', j < n → j ≠ i → Ψ j v w → Rof R G u i w w' → Ψ j v w')
    (hsel : Region.noSelect ops = true) (hn : n < ops.size) (hs : Region.sinkB .any ops n = true) (hc : Region.chainB .any ops n = true) (hlex : Region.lexHead .any ops (ops.size - n) n 0 (lexed ops.size 0) = true)
    (hL : lookG ops n = true) (hD : dstR ops n a0.tmps.size = true)
    (hstep : ∀ i, i < n → ∀ V w', R W w' → (i = u → K0 w') → (∀ j, (depsOf ops i).contains j = true → Ψ j (V j) w') → stepVX P ops (Rof R G u i) Z Ψ i (frV ops a0 V i) w')
    (hend : ∀ V w', R W w' → (∀ i, i < n → Ψ i (V i) w') → wpList P ops Q (l.drop n) (frV ops a0 V n) w') (f : Nat) :
    ∀ listed a w, left listed n = f → HeadInv .any ops n listed → FrInv ops n a0 Ψ listed a w → R W w → (listed.getD u true = false → K0 w) → wpAny P .any ops Q (f + (ops.size - n)) listed a w := by
  have hval : ∀ {listed a w i}, FrInv ops n a0 Ψ listed a w → i < n → listed.getD i false = true → Ψ i (valOf ops a i) w := by
    intro listed a w i inv hi hli
    unfold valOf
    cases hd : dstOf ops i with
    | none => exact inv.non i hi hli hd
    | some d => exact inv.val i d hi hli hd
  induction f with
  | zero =>
    intro listed a w hf hinv inv hg hk0
    have hall := left_zero hf
    have ea : a = frV ops a0 (valOf ops a) n := by
      obtain ⟨tm, df⟩ := a
      have h1 : tm = (frV ops a0 (valOf ops ⟨tm, df⟩) n).tmps := by
        apply Array.ext_getElem?
        intro s
        by_cases hex : ∃ j, j < n ∧ dstOf ops j = some s
        · obtain ⟨j, hj, hd⟩ := hex
          exact (frV_in a0 ⟨tm, df⟩ inv.size n s ⟨j, hj, hd⟩ (dstR_lt hD hj hd)).symm
        · have hno : ∀ j, j < n → dstOf ops j ≠ some s := fun j hj hd => hex ⟨j, hj, hd⟩
          rw [frV_out a0 _ n s hno]
          exact inv.old s fun i hi _ => hno i hi
      have h2 : df = (frV ops a0 (valOf ops ⟨tm, df⟩) n).defers := by rw [frV_defers]; exact inv.defers
      generalize frV ops a0 (valOf ops ⟨tm, df⟩) n = b at *
      obtain ⟨bt, bd⟩ := b
      simp_all
    have el : listed = lexed ops.size n := by
      apply Array.ext
      · rw [lexed_size]; exact hinv.size
      · intro i h1 h2
        have e1 := lexed_get ops.size n i (by rw [← hinv.size]; exact h1)
        by_cases hin : i < n
        · have e2 := hall i hin
          have : (lexed ops.size n).getD i false = true := by rw [e1]; simp [hin]
          simp [h1, h2] at e2 this
          rw [e2, this]
        · have e2 := getD_both (hinv.tail i (by omega) (by rw [← hinv.size]; exact h1))
          have : (lexed ops.size n).getD i false = false := by rw [e1]; simp [hin]
          simp [h1, h2] at e2 this
          rw [e2, this]
    have hw := hend (valOf ops a) w hg fun i hi => hval inv hi (hall i hi)
    rw [← ea] at hw
    have hse := lexHead_end ops.size n 0 (by simpa using hlex)
    rw [Nat.zero_add] at hse
    have hdl : (l.drop n).length = ops.size - n := by rw [hl]; simp
    have T := wpAny_of_seq (md := .any) (P := P) (ops := ops) (Q' := Q) (l.drop n) n listed a w (fun j => by rw [hl]; simp [List.getElem?_drop]) (by rw [hdl, el]; exact hse) hw
    rw [hdl] at T
    rw [Nat.zero_add]
    exact T
  | succ f ih =>
    intro listed a w hf hinv inv hg hk0
    obtain ⟨k, hk, hkf, hkall⟩ := left_pos (by rw [hf]; exact Nat.succ_ne_zero f)
    have hkt : listed.getD k true = false := getD_in (by rw [hinv.size]; omega) hkf
    have hkr : k ∈ Region.ready .any ops listed := by
      have h0 := lexHead_at ops.size n 0 (by simpa using hlex) k (Nat.zero_le _) (by omega)
      obtain ⟨_, o, ho, hall⟩ := mem_ready.1 h0
      refine mem_ready.2 ⟨hkt, o, ho, fun e he hb => ?_⟩
      have h1 := hall e he hb
      have h2 : e.on < ops.size := by
        rcases Nat.lt_or_ge e.on (lexed ops.size k).size with h' | h'
        · rw [lexed_size] at h'; exact h'
        · simp [Array.getElem?_eq_none h'] at h1
      rw [lexed_get ops.size k e.on h2] at h1
      exact hkall e.on (by simpa using h1)
    rw [Nat.add_right_comm]
    refine ⟨fun h0 => absurd h0 (List.ne_nil_of_mem hkr), fun i hi => ?_⟩
    have hin : i < n := Nat.lt_of_not_le fun h => tail_waits hs hc hn hinv _ k rfl hk hkt i h hi
    obtain ⟨hiun, o, ho, hall⟩ := mem_ready.1 hi
    have hlk := lookG_spec hL hin ho
    have hd : dstOf ops i = o.dst := by unfold dstOf; rw [ho]; rfl
    have S := hstep i hin (valOf ops a) w hg (fun hiu => hk0 (by rw [← hiu]; exact hiun)) fun j hj => by
      have hj' := List.mem_filter.1 (show j ∈ depsOf ops i by simpa using hj)
      have hlt := List.mem_range.1 hj'.1
      exact hval inv (by omega) (waits_listed hi hj'.2)
    unfold stepVX at S
    simp only [ho] at S
    have hex : execOp a.eval o = execOp (frV ops a0 (valOf ops a) i).eval o := by
      refine execOp_congr o (fun cs b => Region.noSelect_spec hsel i o cs b ho) fun x hx => eval_same fun t ht => ?_
      subst ht
      have htl : t ∈ o.looksAt ops := List.mem_append_left _ (List.mem_filterMap.2 ⟨.tmp t, by simpa using hx, rfl⟩)
      by_cases hexi : ∃ j, j < n ∧ dstOf ops j = some t
      · obtain ⟨j, hj, hdj⟩ := hexi
        obtain ⟨hji, _⟩ := hlk t htl j hj hdj
        exact (frV_in a0 a inv.size i t ⟨j, hji, hdj⟩ (dstR_lt hD hj hdj)).symm
      · have hno : ∀ j, j < n → dstOf ops j ≠ some t := fun j hj hd => hexi ⟨j, hj, hd⟩
        rw [frV_out a0 _ i t fun j hj => hno j (by omega)]
        exact inv.old t fun j hj _ => hno j hj
    have next : ∀ v w', (dstOf ops i = none → v = undef) → Rof R G u i w w' → Ψ i v w' → wpAny P .any ops Q (f + (ops.size - n)) (listed.setIfInBounds i true) (a.put o.dst v) w' := by
      intro v w' hun hgo hv
      have hg' : R w w' := Rof_R (fun h => hGR h) hgo
      have hlf : left (listed.setIfInBounds i true) n = f := by have := left_set hin hiun; omega
      have hk1 : (listed.setIfInBounds i true).getD u true = false → K0 w' := fun hu => by
        have hne : i ≠ u := fun e => by
          subst e
          have : i < listed.size := by rw [hinv.size]; omega
          simp [this] at hu
        unfold Rof at hgo
        rw [if_neg hne] at hgo
        refine hGK hgo (hk0 ?_)
        rwa [getD_set_ne true (fun e => hne e)] at hu
      refine ih _ _ _ hlf (hinv.set hi hin) ?_ (htr hg hg') hk1
      have hset : ∀ j, j ≠ i → (listed.setIfInBounds i true).getD j false = true → listed.getD j false = true := fun j hj h => by rwa [getD_set_ne false (Ne.symm hj)] at h
      refine ⟨(put_size _ _ _).trans inv.size, (put_defers _ _ _).trans inv.defers, fun s hs' => ?_, fun j d hj hjl hjd => ?_, fun j hj hjl hjd => ?_⟩
      · have h1 : dstOf ops i ≠ some s := hs' i hin (by
          have : i < listed.size := by rw [hinv.size]; omega
          simp [this])
        rw [put_other _ _ (by rw [← hd]; exact h1)]
        exact inv.old s fun j hj hjl => hs' j hj (getD_set_true hjl)
      · by_cases hji : j = i
        · subst hji
          have e : o.dst = some d := by rw [← hd]; exact hjd
          rw [e]
          have hlt : d < a.tmps.size := by rw [inv.size]; exact dstR_lt hD hin hjd
          have := put_same a d v hlt
          rw [Array.getD_eq_getD_getElem?, this]
          exact hv
        · have hne : o.dst ≠ some d := by rw [← hd]; exact dstR_ne hD hj hin hji hjd
          have := put_other a v hne
          rw [Array.getD_eq_getD_getElem?, this, ← Array.getD_eq_getD_getElem?]
          exact hst _ _ _ _ _ hj hji (inv.val j d hj (hset j hji hjl) hjd) hgo
      · by_cases hji : j = i
        · subst hji
          rw [← hun hjd]; exact hv
        · exact hst _ _ _ _ _ hj hji (inv.non j hj (hset j hji hjl) hjd) hgo
    have hwv : Region.wanted o (yielded ops a.tmps) = Region.wanted o (yielded ops (frV ops a0 (valOf ops a) i).tmps) := by
      unfold Region.wanted
      cases hgd : o.guard with
      | none => rfl
      | some x =>
        obtain ⟨g, want⟩ := x
        have hy : yielded ops a.tmps g = yielded ops (frV ops a0 (valOf ops a) i).tmps g := by
          unfold yielded
          cases hdg : (ops[g]?).bind (·.dst) with
          | none => rfl
          | some t =>
            have htl : t ∈ o.looksAt ops := by
              unfold Oper.looksAt
              rw [hgd]
              exact List.mem_append_right _ (by simp only [hdg]; simp)
            have he : a.tmps[t]? = (frV ops a0 (valOf ops a) i).tmps[t]? := by
              by_cases hexi : ∃ j, j < n ∧ dstOf ops j = some t
              · obtain ⟨j, hj, hdj⟩ := hexi
                obtain ⟨hji, _⟩ := hlk t htl j hj hdj
                exact (frV_in a0 a inv.size i t ⟨j, hji, hdj⟩ (dstR_lt hD hj hdj)).symm
              · have hno : ∀ j, j < n → dstOf ops j ≠ some t := fun j hj hd => hexi ⟨j, hj, hd⟩
                rw [frV_out a0 _ i t fun j hj => hno j (by omega)]
                exact inv.old t fun j hj _ => hno j hj
            simp only [Option.bind_some, he]
        simp only [hy]
    unfold wpOp
    simp only [ho]
    rw [hwv]
    by_cases hwa : Region.wanted o (yielded ops (frV ops a0 (valOf ops a) i).tmps) = true
    case neg =>
      rw [if_neg hwa]
      rw [if_neg hwa] at S
      exact next undef w (fun _ => rfl) (Rof_G (fun h => hGR h) (hrf w)) S
    rw [if_pos hwa]
    rw [if_pos hwa] at S
    refine .inl ?_
    unfold Oper.wp
    rw [hex]
    generalize (execOp (frV ops a0 (valOf ops a) i).eval o).run P w = r at S
    match r, S with
    | .ok (.value v) w', S => exact next v w' (fun e => by rw [e] at S; cases S.1) S.2.1 S.2.2
    | .ok .skip w', S => exact next undef w' (fun _ => rfl) S.1 S.2
    | .ok (.enter fn args) w', S =>
      rw [Oper.upon_enter]
      obtain ⟨hS, S⟩ := S
      refine Calls.mono S ?_
      rintro e w'' (⟨v, rfl, h1, h2⟩ | ⟨c, rfl, hz⟩)
      · exact next v w'' (fun e => by rw [e] at hS; cases hS) h1 h2
      · exact hZ c a w'' inv.defers hz
    | .halt (.panic v) w', S => exact hZ _ a w' inv.defers S
theorem region_invU (htr : ∀ {w w1 w2 : World}, R w w1 → R w1 w2 → R w w2) (hrf : ∀ w : World, G w w) (hGR : ∀ {w w' : World}, G w w' → R w w') (hGK : ∀ {w w' : World}, G w w' → K0 w → K0 w') {u : Nat} {id : Nat} {Q : Exit → Act → World → Prop} {a : Act} {w : World} {l : List Oper} (n : Nat) (Ψ : Nat → Value → World → Prop) {Z : List PanicEntry → World → Prop} (hZ : ∀ c a' w, a'.defers = a.defers → Z c w → Q (.panic c) a' w)
    (hm : P.follows .mixedOrders = true) (hB : Region.lexTailB .any l.toArray n = true) (hL : lookG l.toArray n = true) (hD : dstR l.toArray n a.tmps.size = true)
    (hst : ∀ j i v w w', j < n → j ≠ i → Ψ j v w → Rof R G u i w w' → Ψ j v w')
    (hK0 : K0 w.drew) (hstep : ∀ i, i < n → ∀ V w', R w.drew w' → (i = u → K0 w') → (∀ j, (depsOf l.toArray i).contains j = true → Ψ j (V j) w') → stepVX P l.toArray (Rof R G u i) Z Ψ i (frV l.toArray a V i) w')
    (hend : ∀ V w', R w.drew w' → (∀ i, i < n → Ψ i (V i) w') → wpList P l.toArray Q (l.drop n) (frV l.toArray a V n) w') : (Code.region id l.toArray true).wp P Q a w := by
  simp only [Region.lexTailB, Bool.and_eq_true, decide_eq_true_eq] at hB
  obtain ⟨⟨⟨⟨hsel, hn⟩, hs⟩, hc⟩, hlex⟩ := hB
  have inv0 : HeadInv .any l.toArray n (Array.replicate l.toArray.size false) :=
    ⟨by simp, fun j oj _ hl => (by rw [getD_replicate_false] at hl; cases hl), fun t _ ht => getD_in (by simpa using ht) (getD_replicate_false _ _)⟩
  have hl0 : left (Array.replicate l.toArray.size false) n = n := by
    unfold left
    rw [List.filter_eq_self.2 fun i _ => by rw [getD_replicate_false]; rfl]
    simp
  have fr0 : FrInv l.toArray n a Ψ (Array.replicate l.toArray.size false) a w.drew :=
    ⟨rfl, rfl, fun _ _ => rfl, fun i d _ h => (by rw [getD_replicate_false] at h; cases h), fun i _ h => (by rw [getD_replicate_false] at h; cases h)⟩
  have T := any_of_lu (R := R) (G := G) (K0 := K0) (u := u) htr hrf (fun h => hGR h) (fun h => hGK h) (P := P) (Q := Q) (ops := l.toArray) (n := n) (a0 := a) (W := w.drew) (Ψ := Ψ) hZ rfl hst hsel hn hs hc (by simpa [lexed] using hlex) hL hD hstep hend n _ a w.drew hl0 inv0 fr0 (hGR (hrf _)) (fun _ => hK0)
  rw [show n + (l.toArray.size - n) = l.toArray.size by omega] at T
  exact wp_region_any hm T
def lul (P : Program) (ops : Array Oper) (R G : World → World → Prop) (K0 : World → Prop) (u : Nat) (W : World) (Z : List PanicEntry → World → Prop) (F : Act → World → Prop) (L : List Sp) : List (Nat × (World → Prop)) → List Nat → Nat → List Oper → Act → Prop
  | hs, bad, _, [], A => bad = [] → ∀ w, R W w → (∀ p, p ∈ hs → p.2 w) → F A w
  | hs, bad, i, o :: rest, A => match L.getD i .never with
    | .val x => (∀ w, R W w → (i = u → K0 w) → (∀ p, p ∈ hs → (depsOf ops i).contains p.1 = true → p.2 w) → lyStep P ops (Rof R G u i) Z i o A (fun v _ => v = x) w) ∧ lul P ops R G K0 u W Z F L hs bad (i + 1) rest (A.put (dstOf ops i) x)
    | .prop f => (∀ v w w', f v w → Rof G R u i w w' → f v w') ∧ (∀ w, R W w → (i = u → K0 w) → (∀ p, p ∈ hs → (depsOf ops i).contains p.1 = true → p.2 w) → lyStep P ops (Rof R G u i) Z i o A f w) ∧ ∀ v, lul P ops R G K0 u W Z F L ((i, f v) :: hs) bad (i + 1) rest (A.put (dstOf ops i) v)
    | .stop => (∀ w, R W w → (i = u → K0 w) → (∀ p, p ∈ hs → (depsOf ops i).contains p.1 = true → p.2 w) → lyStep P ops (Rof R G u i) Z i o A (fun _ _ => False) w) ∧ lul P ops R G K0 u W Z F L hs (i :: bad) (i + 1) rest (A.put (dstOf ops i) undef)
    | .never => bad.any (fun j => (depsOf ops i).contains j) = true ∧ lul P ops R G K0 u W Z F L hs (i :: bad) (i + 1) rest (A.put (dstOf ops i) undef)
/-- what it says of each operation, whatever the values are -/
theorem lul_get {R G : World → World → Prop} {K0 : World → Prop} {u : Nat} {W : World} {Z : List PanicEntry → World → Prop} {F : Act → World → Prop} {L : List Sp} {a : Act} (V : Nat → Value) : ∀ {rest : List Oper} {i : Nat} {A : Act} {hs : List (Nat × (World → Prop))} {bad : List Nat},
    A = frV ops a (Sp.at L V) i → (∀ p, p ∈ hs → ∃ f, L.getD p.1 .never = .prop f ∧ p.2 = f (V p.1)) → (∀ j, j ∈ bad ↔ (j < i ∧ (L.getD j .never).bad = true)) → lul P ops R G K0 u W Z F L hs bad i rest A →
    (∀ k o, rest[k]? = some o → ((∀ v w w', (L.getD (i + k) .never).psi v w → Rof G R u (i + k) w w' → (L.getD (i + k) .never).psi v w') ∧ ((∃ j, (L.getD j .never).bad = true ∧ (depsOf ops (i + k)).contains j = true) ∨
      ∀ w, R W w → (i + k = u → K0 w) → (∀ j f, L.getD j .never = .prop f → (depsOf ops (i + k)).contains j = true → f (V j) w) → lyStep P ops (Rof R G u (i + k)) Z (i + k) o (frV ops a (Sp.at L V) (i + k)) (L.getD (i + k) .never).psi w))) ∧
    ((∀ j, j < i + rest.length → (L.getD j .never).bad = false) → ∀ w, R W w → (∀ j f, L.getD j .never = .prop f → f (V j) w) → F (frV ops a (Sp.at L V) (i + rest.length)) w)
  | [], i, A, hs, bad, hA, hh, hb, h => by
    refine ⟨fun k o ho => by simp at ho, fun hn w hw hf => ?_⟩
    have h0 : bad = [] := by
      cases bad with
      | nil => rfl
      | cons j l =>
        have h9 := (hb j).1 (by simp)
        rw [hn j (by simpa using h9.1)] at h9
        cases h9.2
    have h1 := h h0 w hw fun p hp => by
      obtain ⟨f, h1, h2⟩ := hh p hp
      rw [h2]; exact hf _ f h1
    rw [hA] at h1
    simpa using h1
  | o :: rest, i, A, hs, bad, hA, hh, hb, h => by
    have hput : ∀ x, x = Sp.at L V i → A.put (dstOf ops i) x = frV ops a (Sp.at L V) (i + 1) := fun x hx => by rw [frV, hA, hx]
    have hbad : ∀ (b : Bool), (L.getD i .never).bad = b → ∀ j, j ∈ (bif b then i :: bad else bad) ↔ (j < i + 1 ∧ (L.getD j .never).bad = true) := fun b hbb j => by
      by_cases hj : j = i
      · subst hj
        cases b
        · simp only [cond_false, hb j, hbb]; simp
        · simp only [cond_true, hbb]; simp
      · cases b
        · simp only [cond_false, hb j]
          constructor
          · rintro ⟨h1, h2⟩; exact ⟨by omega, h2⟩
          · rintro ⟨h1, h2⟩; exact ⟨by omega, h2⟩
        · simp only [cond_true, List.mem_cons, hb j, hj, false_or]
          constructor
          · rintro ⟨h1, h2⟩; exact ⟨by omega, h2⟩
          · rintro ⟨h1, h2⟩; exact ⟨by omega, h2⟩
    have key : ∀ hs' bad', (∀ p, p ∈ hs' → ∃ f, L.getD p.1 .never = .prop f ∧ p.2 = f (V p.1)) → (∀ j, j ∈ bad' ↔ (j < i + 1 ∧ (L.getD j .never).bad = true)) → lul P ops R G K0 u W Z F L hs' bad' (i + 1) rest (frV ops a (Sp.at L V) (i + 1)) →
        ((∀ v w w', (L.getD i .never).psi v w → Rof G R u i w w' → (L.getD i .never).psi v w') ∧ ((∃ j, (L.getD j .never).bad = true ∧ (depsOf ops i).contains j = true) ∨
          ∀ w, R W w → (i = u → K0 w) → (∀ j f, L.getD j .never = .prop f → (depsOf ops i).contains j = true → f (V j) w) → lyStep P ops (Rof R G u i) Z i o (frV ops a (Sp.at L V) i) (L.getD i .never).psi w)) →
        (∀ k o', (o :: rest)[k]? = some o' → ((∀ v w w', (L.getD (i + k) .never).psi v w → Rof G R u (i + k) w w' → (L.getD (i + k) .never).psi v w') ∧ ((∃ j, (L.getD j .never).bad = true ∧ (depsOf ops (i + k)).contains j = true) ∨
          ∀ w, R W w → (i + k = u → K0 w) → (∀ j f, L.getD j .never = .prop f → (depsOf ops (i + k)).contains j = true → f (V j) w) → lyStep P ops (Rof R G u (i + k)) Z (i + k) o' (frV ops a (Sp.at L V) (i + k)) (L.getD (i + k) .never).psi w))) ∧
        ((∀ j, j < i + (o :: rest).length → (L.getD j .never).bad = false) → ∀ w, R W w → (∀ j f, L.getD j .never = .prop f → f (V j) w) → F (frV ops a (Sp.at L V) (i + (o :: rest).length)) w) := by
      intro hs' bad' hh' hb' h' hst
      obtain ⟨g1, g2⟩ := lul_get V (rest := rest) rfl hh' hb' h'
      refine ⟨fun k o' hk => ?_, fun hn w hw hf => ?_⟩
      · cases k with
        | zero =>
          obtain rfl : o = o' := by simpa using hk
          exact hst
        | succ k =>
          have := g1 k o' (by simpa using hk)
          rwa [show i + 1 + k = i + (k + 1) by omega] at this
      · have := g2 (fun j hj => hn j (by simp; omega)) w hw hf
        rwa [show i + 1 + rest.length = i + (o :: rest).length by simp; omega] at this
    have hps : ∀ w, (∀ j f, L.getD j .never = .prop f → (depsOf ops i).contains j = true → f (V j) w) → ∀ p, p ∈ hs → (depsOf ops i).contains p.1 = true → p.2 w := fun w hf p hp hc => by
      obtain ⟨f, h1, h2⟩ := hh p hp
      rw [h2]; exact hf _ f h1 hc
    unfold lul at h
    rw [hA] at h
    cases hL : L.getD i .never with
    | val x =>
      rw [hL] at h
      obtain ⟨h1, h2⟩ := h
      rw [← hA, hput x (by unfold Sp.at; rw [hL])] at h2
      exact key _ _ hh (hbad false (by rw [hL]; rfl)) h2 (by rw [hL]; exact ⟨fun v w w' h _ => h, .inr fun w hw hu hf => h1 w hw hu (hps w hf)⟩)
    | prop f =>
      rw [hL] at h
      obtain ⟨h0, h1, h2⟩ := h
      have h2 := h2 (V i)
      rw [← hA, hput (V i) (by unfold Sp.at; rw [hL])] at h2
      refine key _ _ (fun p hp => ?_) (hbad false (by rw [hL]; rfl)) h2 (by rw [hL]; exact ⟨h0, .inr fun w hw hu hf => h1 w hw hu (hps w hf)⟩)
      rcases List.mem_cons.1 hp with rfl | hp
      · exact ⟨f, hL, rfl⟩
      · exact hh p hp
    | stop =>
      rw [hL] at h
      obtain ⟨h1, h2⟩ := h
      rw [← hA, hput undef (by unfold Sp.at; rw [hL])] at h2
      exact key _ _ hh (hbad true (by rw [hL]; rfl)) h2 (by rw [hL]; exact ⟨fun v w w' h _ => h, .inr fun w hw hu hf => h1 w hw hu (hps w hf)⟩)
    | never =>
      rw [hL] at h
      obtain ⟨h1, h2⟩ := h
      rw [← hA, hput undef (by unfold Sp.at; rw [hL])] at h2
      refine key _ _ hh (hbad true (by rw [hL]; rfl)) h2 ⟨fun v w w' h _ => by rw [hL] at h; exact h.elim, .inl ?_⟩
      obtain ⟨j, hj, hc⟩ := List.any_eq_true.1 h1
      exact ⟨j, ((hb j).1 hj).2, hc⟩
set_option maxHeartbeats 2000000 in
/-- **The region.** -/
theorem region_lu (R G : World → World → Prop) (K0 : World → Prop) (u : Nat) (htr : ∀ {w w1 w2 : World}, R w w1 → R w1 w2 → R w w2) (hrf : ∀ w : World, G w w) (hGR : ∀ {w w' : World}, G w w' → R w w') (hGK : ∀ {w w' : World}, G w w' → K0 w → K0 w') {id : Nat} {Q : Exit → Act → World → Prop} {a : Act} {w : World} {l : List Oper} (n : Nat) (L : List Sp) (hLn : L.length = n) (hm : P.follows .mixedOrders = true) (hB : Region.lexTailB .any l.toArray n = true) (hL : lookG l.toArray n = true) (hD : dstR l.toArray n a.tmps.size = true)
    (hK0 : K0 w.drew) (h : lul P l.toArray R G K0 u w.drew (fun c w => ∀ a', a'.defers = a.defers → Q (.panic c) a' w) (fun A w => wpList P l.toArray Q (l.drop n) A w) L [] [] 0 (l.take n) a) : (Code.region id l.toArray true).wp P Q a w := by
  have hn : n < l.length := by
    simp only [Region.lexTailB, Bool.and_eq_true, decide_eq_true_eq] at hB
    simpa using hB.1.1.1.2
  have hsel : Region.noSelect l.toArray = true := by
    simp only [Region.lexTailB, Bool.and_eq_true, decide_eq_true_eq] at hB
    exact hB.1.1.1.1
  have hlen : (l.take n).length = n := by rw [List.length_take]; omega
  have hget := fun V => lul_get (ops := l.toArray) (P := P) (a := a) V rfl (by simp) (by simp) h
  simp only [Nat.zero_add, hlen] at hget
  have ho : ∀ i, (hi : i < n) → (l.take n)[i]? = some (l[i]'(by omega)) := fun i hi => by rw [List.getElem?_take, if_pos hi, List.getElem?_eq_getElem (by omega)]
  refine region_invU (R := R) (G := G) (K0 := K0) (u := u) (fun h1 h2 => htr h1 h2) (fun w => hrf w) (fun h => hGR h) (fun h => hGK h) n (fun i v w => (L.getD i .never).psi v w) (Z := fun c w => ∀ a', a'.defers = a.defers → Q (.panic c) a' w) (fun c a' w hd h => h a' hd) hm hB hL hD (fun j i v w w' hj hne hp hr => ((hget fun _ => undef).1 j _ (ho j hj)).1 v w w' hp (Rof_flip (fun h => hGR h) hne hr)) hK0 (fun i hi V w' g hu hV => ?_) fun V w' g hV => ?_
  · have ho' : l.toArray[i]? = some l[i] := by rw [List.getElem?_toArray, List.getElem?_eq_getElem (by omega)]
    unfold stepVX
    rw [ho']
    have hlk := lookG_spec hL hi ho'
    have hpsi : ∀ j, (depsOf l.toArray i).contains j = true → V j = Sp.at L V j ∧ (L.getD j .never).bad = false := fun j hj => by
      have h9 := hV j hj
      unfold Sp.at
      cases hLj : L.getD j .never with
      | val x => rw [hLj] at h9; exact ⟨h9, rfl⟩
      | prop f => exact ⟨rfl, rfl⟩
      | stop => rw [hLj] at h9; exact h9.elim
      | never => rw [hLj] at h9; exact h9.elim
    rcases ((hget V).1 i _ (ho i hi)).2 with ⟨j, hj, hc⟩ | hs
    · rw [(hpsi j hc).2] at hj
      cases hj
    · have hs := hs w' g hu fun j f hLj hc => by
        have h9 := hV j hc
        simp only [hLj] at h9
        exact h9
      have same : ∀ t, t ∈ (l[i]).looksAt l.toArray → (frV l.toArray a V i).tmps[t]? = (frV l.toArray a (Sp.at L V) i).tmps[t]? := fun t ht => frV_same fun j hj hd => by
        have h9 := (hlk t ht j (by omega) hd).2
        exact (hpsi j (by
          have : j ∈ depsOf l.toArray i := List.mem_filter.2 ⟨List.mem_range.2 hj, h9⟩
          simpa using this)).1
      have hex : execOp (frV l.toArray a V i).eval l[i] = execOp (frV l.toArray a (Sp.at L V) i).eval l[i] := by
        refine execOp_congr _ (fun cs b => Region.noSelect_spec hsel i _ cs b ho') fun x hx => eval_same fun t ht => ?_
        subst ht
        exact same t (List.mem_append_left _ (List.mem_filterMap.2 ⟨.tmp t, by simpa using hx, rfl⟩))
      have hwn : Region.wanted l[i] (yielded l.toArray (frV l.toArray a V i).tmps) = Region.wanted l[i] (yielded l.toArray (frV l.toArray a (Sp.at L V) i).tmps) := by
        unfold Region.wanted
        cases hgd : (l[i]).guard with
        | none => rfl
        | some x =>
          obtain ⟨g, want⟩ := x
          have hy : yielded l.toArray (frV l.toArray a V i).tmps g = yielded l.toArray (frV l.toArray a (Sp.at L V) i).tmps g := by
            unfold yielded
            cases hdg : (l.toArray[g]?).bind (·.dst) with
            | none => rfl
            | some t =>
              have he := same t (by
                unfold Oper.looksAt
                rw [hgd]
                exact List.mem_append_right _ (by simp only [hdg]; simp))
              simp only [Option.bind_some, he]
          simp only [hy]
      show (if Region.wanted l[i] (yielded l.toArray (frV l.toArray a V i).tmps) = true then _ else _)
      rw [hwn, hex]
      exact hs
  · have hall : ∀ j, j < n → V j = Sp.at L V j ∧ (L.getD j .never).bad = false := fun j hj => by
      have h9 := hV j hj
      unfold Sp.at
      cases hLj : L.getD j .never with
      | val x => simp only [hLj] at h9; exact ⟨h9, rfl⟩
      | prop f => exact ⟨rfl, rfl⟩
      | stop => simp only [hLj] at h9; exact h9.elim
      | never => simp only [hLj] at h9; exact h9.elim
    have h9 := (hget V).2 (fun j hj => (hall j hj).2) w' g fun j f hLj => by
      have hj : j < n := by
        rcases Nat.lt_or_ge j n with h' | h'
        · exact h'
        · rw [List.getD_eq_getElem?_getD, List.getElem?_eq_none (by omega)] at hLj
          cases hLj
      have h8 := hV j hj
      simp only [hLj] at h8
      exact h8
    rw [frV_congr (V' := Sp.at L V) fun j hj => (hall j hj).1]
    exact h9
/-- the steps -/
theorem lu_val {R G : World → World → Prop} {K0 : World → Prop} {u : Nat} {W : World} {Z : List PanicEntry → World → Prop} {F : Act → World → Prop} {L : List Sp} {hs : List (Nat × (World → Prop))} {bad : List Nat} {i : Nat} {o : Oper} {rest : List Oper} {A : Act} {x : Value} (hL : L[i]? = some (.val x)) (hw : Region.wanted o (yielded ops A.tmps) = true) (hd : dstOf ops i = o.dst ∧ o.dst.isSome = true)
    (hrf : ∀ w, G w w) (hGR : ∀ {w w' : World}, G w w' → R w w') (h : ∀ w, R W w → (execOp A.eval o).run P w = .ok (.value x) w) (hr : lul P ops R G K0 u W Z F L hs bad (i + 1) rest (A.put o.dst x)) : lul P ops R G K0 u W Z F L hs bad i (o :: rest) A := by
  unfold lul
  rw [List.getD_eq_getElem?_getD, hL]
  exact ⟨fun w hk _ _ => by unfold lyStep; rw [if_pos hw, h w hk]; exact ⟨by rw [hd.1]; exact hd.2, Rof_G (fun h => hGR h) (hrf w), rfl⟩, by rw [hd.1]; exact hr⟩
theorem lu_no {R G : World → World → Prop} {K0 : World → Prop} {u : Nat} {W : World} {Z : List PanicEntry → World → Prop} {F : Act → World → Prop} {L : List Sp} {hs : List (Nat × (World → Prop))} {bad : List Nat} {i : Nat} {o : Oper} {rest : List Oper} {A : Act} (hL : L[i]? = some (.val undef)) (hw : Region.wanted o (yielded ops A.tmps) = false) (hd : dstOf ops i = o.dst)
    (hr : lul P ops R G K0 u W Z F L hs bad (i + 1) rest (A.put o.dst undef)) : lul P ops R G K0 u W Z F L hs bad i (o :: rest) A := by
  unfold lul
  rw [List.getD_eq_getElem?_getD, hL]
  exact ⟨fun w hk _ _ => by unfold lyStep; rw [if_neg (by rw [hw]; simp)], by rw [hd]; exact hr⟩
/-- a call that tells a value that is known -/
theorem lu_call {R G : World → World → Prop} {K0 : World → Prop} {u : Nat} {W : World} {Z : List PanicEntry → World → Prop} {F : Act → World → Prop} {L : List Sp} {hs : List (Nat × (World → Prop))} {bad : List Nat} {i : Nat} {o : Oper} {rest : List Oper} {A : Act} {x : Value} {f : FuncId} {args : Array Value} (hL : L[i]? = some (.val x)) (hw : Region.wanted o (yielded ops A.tmps) = true) (hd : dstOf ops i = o.dst ∧ o.dst.isSome = true)
    (h : ∀ w, R W w → (execOp A.eval o).run P w = .ok (.enter f args) w) (hc : ∀ w, R W w → (i = u → K0 w) → (∀ p, p ∈ hs → (depsOf ops i).contains p.1 = true → p.2 w) → Calls P f args w fun e w' => e = .returned x ∧ Rof R G u i w w') (hr : lul P ops R G K0 u W Z F L hs bad (i + 1) rest (A.put o.dst x)) : lul P ops R G K0 u W Z F L hs bad i (o :: rest) A := by
  unfold lul
  rw [List.getD_eq_getElem?_getD, hL]
  exact ⟨fun w hk hu hh => by unfold lyStep; rw [if_pos hw, h w hk]; exact ⟨by rw [hd.1]; exact hd.2, (hc w hk hu hh).mono fun e w' h9 => .inl ⟨x, h9.1, h9.2, rfl⟩⟩, by rw [hd.1]; exact hr⟩
/-- a call of which a property of what it tells is known -/
theorem lu_prop {R G : World → World → Prop} {K0 : World → Prop} {u : Nat} {W : World} {Z : List PanicEntry → World → Prop} {F : Act → World → Prop} {L : List Sp} {hs : List (Nat × (World → Prop))} {bad : List Nat} {i : Nat} {o : Oper} {rest : List Oper} {A : Act} {Ψ : Value → World → Prop} {f : FuncId} {args : Array Value} (hL : L[i]? = some (.prop Ψ)) (hw : Region.wanted o (yielded ops A.tmps) = true) (hd : dstOf ops i = o.dst ∧ o.dst.isSome = true)
    (hst : ∀ v w w', Ψ v w → Rof G R u i w w' → Ψ v w') (h : ∀ w, R W w → (execOp A.eval o).run P w = .ok (.enter f args) w) (hc : ∀ w, R W w → (i = u → K0 w) → (∀ p, p ∈ hs → (depsOf ops i).contains p.1 = true → p.2 w) → Calls P f args w fun e w' => ∃ v, e = .returned v ∧ Rof R G u i w w' ∧ Ψ v w')
    (hr : ∀ v, lul P ops R G K0 u W Z F L ((i, Ψ v) :: hs) bad (i + 1) rest (A.put o.dst v)) : lul P ops R G K0 u W Z F L hs bad i (o :: rest) A := by
  unfold lul
  rw [List.getD_eq_getElem?_getD, hL]
  exact ⟨hst, fun w hk hu hh => by unfold lyStep; rw [if_pos hw, h w hk]; exact ⟨by rw [hd.1]; exact hd.2, (hc w hk hu hh).mono fun e w' h9 => .inl h9⟩, fun v => by rw [hd.1]; exact hr v⟩
theorem lu_stop {R G : World → World → Prop} {K0 : World → Prop} {u : Nat} {W : World} {Z : List PanicEntry → World → Prop} {F : Act → World → Prop} {L : List Sp} {hs : List (Nat × (World → Prop))} {bad : List Nat} {i : Nat} {o : Oper} {rest : List Oper} {A : Act} {f : FuncId} {args : Array Value} {c : List PanicEntry} (hL : L[i]? = some .stop) (hw : Region.wanted o (yielded ops A.tmps) = true) (hd : dstOf ops i = o.dst ∧ o.dst.isSome = true)
    (h : ∀ w, R W w → (execOp A.eval o).run P w = .ok (.enter f args) w) (hc : ∀ w, R W w → (i = u → K0 w) → (∀ p, p ∈ hs → (depsOf ops i).contains p.1 = true → p.2 w) → Calls P f args w fun e w' => e = .panicked c ∧ Z c w') (hr : lul P ops R G K0 u W Z F L hs (i :: bad) (i + 1) rest (A.put o.dst undef)) : lul P ops R G K0 u W Z F L hs bad i (o :: rest) A := by
  unfold lul
  rw [List.getD_eq_getElem?_getD, hL]
  exact ⟨fun w hk hu hh => by unfold lyStep; rw [if_pos hw, h w hk]; exact ⟨by rw [hd.1]; exact hd.2, (hc w hk hu hh).mono fun e w' h9 => .inr ⟨c, h9.1, h9.2⟩⟩, by rw [hd.1]; exact hr⟩
theorem lu_never {R G : World → World → Prop} {K0 : World → Prop} {u : Nat} {W : World} {Z : List PanicEntry → World → Prop} {F : Act → World → Prop} {L : List Sp} {hs : List (Nat × (World → Prop))} {bad : List Nat} {i : Nat} {o : Oper} {rest : List Oper} {A : Act} (hL : L[i]? = some .never) (h : bad.any (fun j => (depsOf ops i).contains j) = true) (hd : dstOf ops i = o.dst) (hr : lul P ops R G K0 u W Z F L hs (i :: bad) (i + 1) rest (A.put o.dst undef)) : lul P ops R G K0 u W Z F L hs bad i (o :: rest) A := by
  unfold lul
  rw [List.getD_eq_getElem?_getD, hL]
  exact ⟨h, by rw [hd]; exact hr⟩
theorem lu_end {R G : World → World → Prop} {K0 : World → Prop} {u : Nat} {W : World} {Z : List PanicEntry → World → Prop} {F : Act → World → Prop} {L : List Sp} {hs : List (Nat × (World → Prop))} {i : Nat} {A : Act} (h : ∀ w, R W w → (∀ p, p ∈ hs → p.2 w) → F A w) : lul P ops R G K0 u W Z F L hs [] i [] A := fun _ => h
theorem lu_lost {R G : World → World → Prop} {K0 : World → Prop} {u : Nat} {W : World} {Z : List PanicEntry → World → Prop} {F : Act → World → Prop} {L : List Sp} {hs : List (Nat × (World → Prop))} {i j : Nat} {bad : List Nat} {A : Act} : lul P ops R G K0 u W Z F L hs (j :: bad) i [] A := fun h => by cases h
end
end Go.Proofs.Ytbpdggdpgohilaa
