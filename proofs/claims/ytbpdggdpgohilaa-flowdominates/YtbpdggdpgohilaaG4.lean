/- A region that draws its order, walked as if in the text's order; of some operations only a property of what they tell is known. -/
import Derived.Test.YtbpdggdpgohilaaRuLx
namespace Go.Proofs.Ytbpdggdpgohilaa
open Go.RowKit
set_option linter.unusedVariables false

/-- what is known of an operation: its value; a property of it; it panics; it never comes -/
inductive Sp where
  | val (x : Value)
  | prop (f : Value → World → Prop)
  | stop
  | never
section
variable {P : Program} {ops : Array Oper}
def Sp.psi : Sp → Value → World → Prop
  | .val x, v, _ => v = x
  | .prop f, v, w => f v w
  | _, _, _ => False
def Sp.at (L : List Sp) (V : Nat → Value) (j : Nat) : Value := match L.getD j .never with
  | .val x => x
  | .prop _ => V j
  | _ => undef
def Sp.bad : Sp → Bool
  | .stop => true
  | .never => true
  | _ => false
def lyStep (P : Program) (ops : Array Oper) (R : World → World → Prop) (Z : List PanicEntry → World → Prop) (i : Nat) (o : Oper) (A : Act) (Ψ : Value → World → Prop) (w : World) : Prop :=
  if Region.wanted o (yielded ops A.tmps) = true then (match (execOp A.eval o).run P w with
    | .ok (.value v) w' => (dstOf ops i).isSome = true ∧ R w w' ∧ Ψ v w'
    | .ok .skip w' => R w w' ∧ Ψ undef w'
    | .ok (.enter f args) w' => (dstOf ops i).isSome = true ∧ Calls P f args w' (fun e w'' => (∃ v, e = .returned v ∧ R w w'' ∧ Ψ v w'') ∨ (∃ c, e = .panicked c ∧ Z c w''))
    | .halt (.panic v) w' => Z [{ v, recovered := false }] w'
    | _ => False) else Ψ undef w
def lyl (P : Program) (ops : Array Oper) (R : World → World → Prop) (W : World) (Z : List PanicEntry → World → Prop) (F : Act → World → Prop) (L : List Sp) : List (Nat × (World → Prop)) → List Nat → Nat → List Oper → Act → Prop
  | hs, bad, _, [], A => bad = [] → ∀ w, R W w → (∀ p, p ∈ hs → p.2 w) → F A w
  | hs, bad, i, o :: rest, A => match L.getD i .never with
    | .val x => (∀ w, R W w → (∀ p, p ∈ hs → (depsOf ops i).contains p.1 = true → p.2 w) → lyStep P ops R Z i o A (fun v _ => v = x) w) ∧ lyl P ops R W Z F L hs bad (i + 1) rest (A.put (dstOf ops i) x)
    | .prop f => (∀ v w w', f v w → R w w' → f v w') ∧ (∀ w, R W w → (∀ p, p ∈ hs → (depsOf ops i).contains p.1 = true → p.2 w) → lyStep P ops R Z i o A f w) ∧ ∀ v, lyl P ops R W Z F L ((i, f v) :: hs) bad (i + 1) rest (A.put (dstOf ops i) v)
    | .stop => (∀ w, R W w → (∀ p, p ∈ hs → (depsOf ops i).contains p.1 = true → p.2 w) → lyStep P ops R Z i o A (fun _ _ => False) w) ∧ lyl P ops R W Z F L hs (i :: bad) (i + 1) rest (A.put (dstOf ops i) undef)
    | .never => bad.any (fun j => (depsOf ops i).contains j) = true ∧ lyl P ops R W Z F L hs (i :: bad) (i + 1) rest (A.put (dstOf ops i) undef)
/-- what it says of each operation, whatever the values are -/
theorem lyl_get {R : World → World → Prop} {W : World} {Z : List PanicEntry → World → Prop} {F : Act → World → Prop} {L : List Sp} {a : Act} (V : Nat → Value) : ∀ {rest : List Oper} {i : Nat} {A : Act} {hs : List (Nat × (World → Prop))} {bad : List Nat},
    A = frV ops a (Sp.at L V) i → (∀ p, p ∈ hs → ∃ f, L.getD p.1 .never = .prop f ∧ p.2 = f (V p.1)) → (∀ j, j ∈ bad ↔ (j < i ∧ (L.getD j .never).bad = true)) → lyl P ops R W Z F L hs bad i rest A →
    (∀ k o, rest[k]? = some o → ((∀ v w w', (L.getD (i + k) .never).psi v w → R w w' → (L.getD (i + k) .never).psi v w') ∧ ((∃ j, (L.getD j .never).bad = true ∧ (depsOf ops (i + k)).contains j = true) ∨
      ∀ w, R W w → (∀ j f, L.getD j .never = .prop f → (depsOf ops (i + k)).contains j = true → f (V j) w) → lyStep P ops R Z (i + k) o (frV ops a (Sp.at L V) (i + k)) (L.getD (i + k) .never).psi w))) ∧
    ((∀ j, j < i + rest.length → (L.getD j .never).bad = false) → ∀ w, R W w → (∀ j f, L.getD j .never = .prop f → f (V j) w) → F (frV ops a (Sp.at L V) (i + rest.length)) w)
  | [], i, A, hs, bad, hA, hh, hb, h => by
    refine ⟨fun k o ho => by simp at ho, fun hn w hw hf => ?_⟩
    have h0 : bad = [] := by
      cases bad with
      | nil => rfl
      | cons j l =>
        have h9 := (hb j).1 (by simp)
        rw [hn j (by simpa using h9.1)] at h9
        cases h9.2
    have h1 := h h0 w hw fun p hp => by
      obtain ⟨f, h1, h2⟩ := hh p hp
      rw [h2]; exact hf _ f h1
    rw [hA] at h1
    simpa using h1
  | o :: rest, i, A, hs, bad, hA, hh, hb, h => by
    have hput : ∀ x, x = Sp.at L V i → A.put (dstOf ops i) x = frV ops a (Sp.at L V) (i + 1) := fun x hx => by rw [frV, hA, hx]
    have hbad : ∀ (b : Bool), (L.getD i .never).bad = b → ∀ j, j ∈ (bif b then i :: bad else bad) ↔ (j < i + 1 ∧ (L.getD j .never).bad = true) := fun b hbb j => by
      by_cases hj : j = i
      · subst hj
        cases b
        · simp only [cond_false, hb j, hbb]; simp
        · simp only [cond_true, hbb]; simp
      · cases b
        · simp only [cond_false, hb j]
          constructor
          · rintro ⟨h1, h2⟩; exact ⟨by omega, h2⟩
          · rintro ⟨h1, h2⟩; exact ⟨by omega, h2⟩
        · simp only [cond_true, List.mem_cons, hb j, hj, false_or]
          constructor
          · rintro ⟨h1, h2⟩; exact ⟨by omega, h2⟩
          · rintro ⟨h1, h2⟩; exact ⟨by omega, h2⟩
    have key : ∀ hs' bad', (∀ p, p ∈ hs' → ∃ f, L.getD p.1 .never = .prop f ∧ p.2 = f (V p.1)) → (∀ j, j ∈ bad' ↔ (j < i + 1 ∧ (L.getD j .never).bad = true)) → lyl P ops R W Z F L hs' bad' (i + 1) rest (frV ops a (Sp.at L V) (i + 1)) →
        ((∀ v w w', (L.getD i .never).psi v w → R w w' → (L.getD i .never).psi v w') ∧ ((∃ j, (L.getD j .never).bad = true ∧ (depsOf ops i).contains j = true) ∨
          ∀ w, R W w → (∀ j f, L.getD j .never = .prop f → (depsOf ops i).contains j = true → f (V j) w) → lyStep P ops R Z i o (frV ops a (Sp.at L V) i) (L.getD i .never).psi w)) →
        (∀ k o', (o :: rest)[k]? = some o' → ((∀ v w w', (L.getD (i + k) .never).psi v w → R w w' → (L.getD (i + k) .never).psi v w') ∧ ((∃ j, (L.getD j .never).bad = true ∧ (depsOf ops (i + k)).contains j = true) ∨
          ∀ w, R W w → (∀ j f, L.getD j .never = .prop f → (depsOf ops (i + k)).contains j = true → f (V j) w) → lyStep P ops R Z (i + k) o' (frV ops a (Sp.at L V) (i + k)) (L.getD (i + k) .never).psi w))) ∧
        ((∀ j, j < i + (o :: rest).length → (L.getD j .never).bad = false) → ∀ w, R W w → (∀ j f, L.getD j .never = .prop f → f (V j) w) → F (frV ops a (Sp.at L V) (i + (o :: rest).length)) w) := by
      intro hs' bad' hh' hb' h' hst
      obtain ⟨g1, g2⟩ := lyl_get V (rest := rest) rfl hh' hb' h'
      refine ⟨fun k o' hk => ?_, fun hn w hw hf => ?_⟩
      · cases k with
        | zero =>
          obtain rfl : o = o' := by simpa using hk
          exact hst
        | succ k =>
          have := g1 k o' (by simpa using hk)
          rwa [show i + 1 + k = i + (k + 1) by omega] at this
      · have := g2 (fun j hj => hn j (by simp; omega)) w hw hf
        rwa [show i + 1 + rest.length = i + (o :: rest).length by simp; omega] at this
    have hps : ∀ w, (∀ j f, L.getD j .never = .prop f → (depsOf ops i).contains j = true → f (V j) w) → ∀ p, p ∈ hs → (depsOf ops i).contains p.1 = true → p.2 w := fun w hf p hp hc => by
      obtain ⟨f, h1, h2⟩ := hh p hp
      rw [h2]; exact hf _ f h1 hc
    unfold lyl at h
    rw [hA] at h
    cases hL : L.getD i .never with
    | val x =>
      rw [hL] at h
      obtain ⟨h1, h2⟩ := h
      rw [← hA, hput x (by unfold Sp.at; rw [hL])] at h2
      exact key _ _ hh (hbad false (by rw [hL]; rfl)) h2 (by rw [hL]; exact ⟨fun v w w' h _ => h, .inr fun w hw hf => h1 w hw (hps w hf)⟩)
    | prop f =>
      rw [hL] at h
      obtain ⟨h0, h1, h2⟩ := h
      have h2 := h2 (V i)
      rw [← hA, hput (V i) (by unfold Sp.at; rw [hL])] at h2
      refine key _ _ (fun p hp => ?_) (hbad false (by rw [hL]; rfl)) h2 (by rw [hL]; exact ⟨h0, .inr fun w hw hf => h1 w hw (hps w hf)⟩)
      rcases List.mem_cons.1 hp with rfl | hp
      · exact ⟨f, hL, rfl⟩
      · exact hh p hp
    | stop =>
      rw [hL] at h
      obtain ⟨h1, h2⟩ := h
      rw [← hA, hput undef (by unfold Sp.at; rw [hL])] at h2
      exact key _ _ hh (hbad true (by rw [hL]; rfl)) h2 (by rw [hL]; exact ⟨fun v w w' h _ => h, .inr fun w hw hf => h1 w hw (hps w hf)⟩)
    | never =>
      rw [hL] at h
      obtain ⟨h1, h2⟩ := h
      rw [← hA, hput undef (by unfold Sp.at; rw [hL])] at h2
      refine key _ _ hh (hbad true (by rw [hL]; rfl)) h2 ⟨fun v w w' h _ => by rw [hL] at h; exact h.elim, .inl ?_⟩
      obtain ⟨j, hj, hc⟩ := List.any_eq_true.1 h1
      exact ⟨j, ((hb j).1 hj).2, hc⟩
set_option maxHeartbeats 2000000 in
/-- **The region.** -/
theorem region_ly (R : World → World → Prop) (htr : ∀ {w w1 w2 : World}, R w w1 → R w1 w2 → R w w2) (hrf : ∀ w : World, R w w) {id : Nat} {Q : Exit → Act → World → Prop} {a : Act} {w : World} {l : List Oper} (n : Nat) (L : List Sp) (hLn : L.length = n) (hm : P.follows .mixedOrders = true) (hB : Region.lexTailB .any l.toArray n = true) (hL : lookG l.toArray n = true) (hD : dstR l.toArray n a.tmps.size = true)
    (h : lyl P l.toArray R w.drew (fun c w => ∀ a', a'.defers = a.defers → Q (.panic c) a' w) (fun A w => wpList P l.toArray Q (l.drop n) A w) L [] [] 0 (l.take n) a) : (Code.region id l.toArray true).wp P Q a w := by
  have hn : n < l.length := by
    simp only [Region.lexTailB, Bool.and_eq_true, decide_eq_true_eq] at hB
    simpa using hB.1.1.1.2
  have hsel : Region.noSelect l.toArray = true := by
    simp only [Region.lexTailB, Bool.and_eq_true, decide_eq_true_eq] at hB
    exact hB.1.1.1.1
  have hlen : (l.take n).length = n := by rw [List.length_take]; omega
  have hget := fun V => lyl_get (ops := l.toArray) (P := P) (a := a) V rfl (by simp) (by simp) h
  simp only [Nat.zero_add, hlen] at hget
  have ho : ∀ i, (hi : i < n) → (l.take n)[i]? = some (l[i]'(by omega)) := fun i hi => by rw [List.getElem?_take, if_pos hi, List.getElem?_eq_getElem (by omega)]
  refine region_invX (R := R) (fun h1 h2 => htr h1 h2) (fun w => hrf w) n (fun i v w => (L.getD i .never).psi v w) (Z := fun c w => ∀ a', a'.defers = a.defers → Q (.panic c) a' w) (fun c a' w hd h => h a' hd) hm hB hL hD (fun i v w w' hi hp hr => ((hget fun _ => undef).1 i _ (ho i hi)).1 v w w' hp hr) (fun i hi V w' g hV => ?_) fun V w' g hV => ?_
  · have ho' : l.toArray[i]? = some l[i] := by rw [List.getElem?_toArray, List.getElem?_eq_getElem (by omega)]
    unfold stepVX
    rw [ho']
    have hlk := lookG_spec hL hi ho'
    have hpsi : ∀ j, (depsOf l.toArray i).contains j = true → V j = Sp.at L V j ∧ (L.getD j .never).bad = false := fun j hj => by
      have h9 := hV j hj
      unfold Sp.at
      cases hLj : L.getD j .never with
      | val x => rw [hLj] at h9; exact ⟨h9, rfl⟩
      | prop f => exact ⟨rfl, rfl⟩
      | stop => rw [hLj] at h9; exact h9.elim
      | never => rw [hLj] at h9; exact h9.elim
    rcases ((hget V).1 i _ (ho i hi)).2 with ⟨j, hj, hc⟩ | hs
    · rw [(hpsi j hc).2] at hj
      cases hj
    · have hs := hs w' g fun j f hLj hc => by
        have h9 := hV j hc
        simp only [hLj] at h9
        exact h9
      have same : ∀ t, t ∈ (l[i]).looksAt l.toArray → (frV l.toArray a V i).tmps[t]? = (frV l.toArray a (Sp.at L V) i).tmps[t]? := fun t ht => frV_same fun j hj hd => by
        have h9 := (hlk t ht j (by omega) hd).2
        exact (hpsi j (by
          have : j ∈ depsOf l.toArray i := List.mem_filter.2 ⟨List.mem_range.2 hj, h9⟩
          simpa using this)).1
      have hex : execOp (frV l.toArray a V i).eval l[i] = execOp (frV l.toArray a (Sp.at L V) i).eval l[i] := by
        refine execOp_congr _ (fun cs b => Region.noSelect_spec hsel i _ cs b ho') fun x hx => eval_same fun t ht => ?_
        subst ht
        exact same t (List.mem_append_left _ (List.mem_filterMap.2 ⟨.tmp t, by simpa using hx, rfl⟩))
      have hwn : Region.wanted l[i] (yielded l.toArray (frV l.toArray a V i).tmps) = Region.wanted l[i] (yielded l.toArray (frV l.toArray a (Sp.at L V) i).tmps) := by
        unfold Region.wanted
        cases hgd : (l[i]).guard with
        | none => rfl
        | some x =>
          obtain ⟨g, want⟩ := x
          have hy : yielded l.toArray (frV l.toArray a V i).tmps g = yielded l.toArray (frV l.toArray a (Sp.at L V) i).tmps g := by
            unfold yielded
            cases hdg : (l.toArray[g]?).bind (·.dst) with
            | none => rfl
            | some t =>
              have he := same t (by
                unfold Oper.looksAt
                rw [hgd]
                exact List.mem_append_right _ (by simp only [hdg]; simp))
              simp only [Option.bind_some, he]
          simp only [hy]
      show (if Region.wanted l[i] (yielded l.toArray (frV l.toArray a V i).tmps) = true then _ else _)
      rw [hwn, hex]
      exact hs
  · have hall : ∀ j, j < n → V j = Sp.at L V j ∧ (L.getD j .never).bad = false := fun j hj => by
      have h9 := hV j hj
      unfold Sp.at
      cases hLj : L.getD j .never with
      | val x => simp only [hLj] at h9; exact ⟨h9, rfl⟩
      | prop f => exact ⟨rfl, rfl⟩
      | stop => simp only [hLj] at h9; exact h9.elim
      | never => simp only [hLj] at h9; exact h9.elim
    have h9 := (hget V).2 (fun j hj => (hall j hj).2) w' g fun j f hLj => by
      have hj : j < n := by
        rcases Nat.lt_or_ge j n with h' | h'
        · exact h'
        · rw [List.getD_eq_getElem?_getD, List.getElem?_eq_none (by omega)] at hLj
          cases hLj
      have h8 := hV j hj
      simp only [hLj] at h8
      exact h8
    rw [frV_congr (V' := Sp.at L V) fun j hj => (hall j hj).1]
    exact h9
/-- the steps -/
theorem ly_val {R : World → World → Prop} {W : World} {Z : List PanicEntry → World → Prop} {F : Act → World → Prop} {L : List Sp} {hs : List (Nat × (World → Prop))} {bad : List Nat} {i : Nat} {o : Oper} {rest : List Oper} {A : Act} {x : Value} (hL : L[i]? = some (.val x)) (hw : Region.wanted o (yielded ops A.tmps) = true) (hd : dstOf ops i = o.dst ∧ o.dst.isSome = true)
    (hrf : ∀ w, R w w) (h : ∀ w, R W w → (execOp A.eval o).run P w = .ok (.value x) w) (hr : lyl P ops R W Z F L hs bad (i + 1) rest (A.put o.dst x)) : lyl P ops R W Z F L hs bad i (o :: rest) A := by
  unfold lyl
  rw [List.getD_eq_getElem?_getD, hL]
  exact ⟨fun w hk _ => by unfold lyStep; rw [if_pos hw, h w hk]; exact ⟨by rw [hd.1]; exact hd.2, hrf w, rfl⟩, by rw [hd.1]; exact hr⟩
theorem ly_no {R : World → World → Prop} {W : World} {Z : List PanicEntry → World → Prop} {F : Act → World → Prop} {L : List Sp} {hs : List (Nat × (World → Prop))} {bad : List Nat} {i : Nat} {o : Oper} {rest : List Oper} {A : Act} (hL : L[i]? = some (.val undef)) (hw : Region.wanted o (yielded ops A.tmps) = false) (hd : dstOf ops i = o.dst)
    (hr : lyl P ops R W Z F L hs bad (i + 1) rest (A.put o.dst undef)) : lyl P ops R W Z F L hs bad i (o :: rest) A := by
  unfold lyl
  rw [List.getD_eq_getElem?_getD, hL]
  exact ⟨fun w hk _ => by unfold lyStep; rw [if_neg (by rw [hw]; simp)], by rw [hd]; exact hr⟩
/-- a call that tells a value that is known -/
theorem ly_call {R : World → World → Prop} {W : World} {Z : List PanicEntry → World → Prop} {F : Act → World → Prop} {L : List Sp} {hs : List (Nat × (World → Prop))} {bad : List Nat} {i : Nat} {o : Oper} {rest : List Oper} {A : Act} {x : Value} {f : FuncId} {args : Array Value} (hL : L[i]? = some (.val x)) (hw : Region.wanted o (yielded ops A.tmps) = true) (hd : dstOf ops i = o.dst ∧ o.dst.isSome = true)
    (h : ∀ w, R W w → (execOp A.eval o).run P w = .ok (.enter f args) w) (hc : ∀ w, R W w → (∀ p, p ∈ hs → (depsOf ops i).contains p.1 = true → p.2 w) → Calls P f args w fun e w' => e = .returned x ∧ R w w') (hr : lyl P ops R W Z F L hs bad (i + 1) rest (A.put o.dst x)) : lyl P ops R W Z F L hs bad i (o :: rest) A := by
  unfold lyl
  rw [List.getD_eq_getElem?_getD, hL]
  exact ⟨fun w hk hh => by unfold lyStep; rw [if_pos hw, h w hk]; exact ⟨by rw [hd.1]; exact hd.2, (hc w hk hh).mono fun e w' h9 => .inl ⟨x, h9.1, h9.2, rfl⟩⟩, by rw [hd.1]; exact hr⟩
/-- a call of which a property of what it tells is known -/
theorem ly_prop {R : World → World → Prop} {W : World} {Z : List PanicEntry → World → Prop} {F : Act → World → Prop} {L : List Sp} {hs : List (Nat × (World → Prop))} {bad : List Nat} {i : Nat} {o : Oper} {rest : List Oper} {A : Act} {Ψ : Value → World → Prop} {f : FuncId} {args : Array Value} (hL : L[i]? = some (.prop Ψ)) (hw : Region.wanted o (yielded ops A.tmps) = true) (hd : dstOf ops i = o.dst ∧ o.dst.isSome = true)
    (hst : ∀ v w w', Ψ v w → R w w' → Ψ v w') (h : ∀ w, R W w → (execOp A.eval o).run P w = .ok (.enter f args) w) (hc : ∀ w, R W w → (∀ p, p ∈ hs → (depsOf ops i).contains p.1 = true → p.2 w) → Calls P f args w fun e w' => ∃ v, e = .returned v ∧ R w w' ∧ Ψ v w')
    (hr : ∀ v, lyl P ops R W Z F L ((i, Ψ v) :: hs) bad (i + 1) rest (A.put o.dst v)) : lyl P ops R W Z F L hs bad i (o :: rest) A := by
  unfold lyl
  rw [List.getD_eq_getElem?_getD, hL]
  exact ⟨hst, fun w hk hh => by unfold lyStep; rw [if_pos hw, h w hk]; exact ⟨by rw [hd.1]; exact hd.2, (hc w hk hh).mono fun e w' h9 => .inl h9⟩, fun v => by rw [hd.1]; exact hr v⟩
theorem ly_stop {R : World → World → Prop} {W : World} {Z : List PanicEntry → World → Prop} {F : Act → World → Prop} {L : List Sp} {hs : List (Nat × (World → Prop))} {bad : List Nat} {i : Nat} {o : Oper} {rest : List Oper} {A : Act} {f : FuncId} {args : Array Value} {c : List PanicEntry} (hL : L[i]? = some .stop) (hw : Region.wanted o (yielded ops A.tmps) = true) (hd : dstOf ops i = o.dst ∧ o.dst.isSome = true)
    (h : ∀ w, R W w → (execOp A.eval o).run P w = .ok (.enter f args) w) (hc : ∀ w, R W w → (∀ p, p ∈ hs → (depsOf ops i).contains p.1 = true → p.2 w) → Calls P f args w fun e w' => e = .panicked c ∧ Z c w') (hr : lyl P ops R W Z F L hs (i :: bad) (i + 1) rest (A.put o.dst undef)) : lyl P ops R W Z F L hs bad i (o :: rest) A := by
  unfold lyl
  rw [List.getD_eq_getElem?_getD, hL]
  exact ⟨fun w hk hh => by unfold lyStep; rw [if_pos hw, h w hk]; exact ⟨by rw [hd.1]; exact hd.2, (hc w hk hh).mono fun e w' h9 => .inr ⟨c, h9.1, h9.2⟩⟩, by rw [hd.1]; exact hr⟩
theorem ly_never {R : World → World → Prop} {W : World} {Z : List PanicEntry → World → Prop} {F : Act → World → Prop} {L : List Sp} {hs : List (Nat × (World → Prop))} {bad : List Nat} {i : Nat} {o : Oper} {rest : List Oper} {A : Act} (hL : L[i]? = some .never) (h : bad.any (fun j => (depsOf ops i).contains j) = true) (hd : dstOf ops i = o.dst) (hr : lyl P ops R W Z F L hs (i :: bad) (i + 1) rest (A.put o.dst undef)) : lyl P ops R W Z F L hs bad i (o :: rest) A := by
  unfold lyl
  rw [List.getD_eq_getElem?_getD, hL]
  exact ⟨h, by rw [hd]; exact hr⟩
theorem ly_end {R : World → World → Prop} {W : World} {Z : List PanicEntry → World → Prop} {F : Act → World → Prop} {L : List Sp} {hs : List (Nat × (World → Prop))} {i : Nat} {A : Act} (h : ∀ w, R W w → (∀ p, p ∈ hs → p.2 w) → F A w) : lyl P ops R W Z F L hs [] i [] A := fun _ => h
theorem ly_lost {R : World → World → Prop} {W : World} {Z : List PanicEntry → World → Prop} {F : Act → World → Prop} {L : List Sp} {hs : List (Nat × (World → Prop))} {i j : Nat} {bad : List Nat} {A : Act} : lyl P ops R W Z F L hs (j :: bad) i [] A := fun h => by cases h
end
end Go.Proofs.Ytbpdggdpgohilaa
