/- Contracts and plain facts that the walks share. -/
import Derived.Test.YtbpdggdpgohilaaG7
import Derived.Test.YtbpdggdpgohilaaSaWs
import Derived.Test.YtbpdggdpgohilaaG10
import Derived.Test.YtbpdggdpgohilaaG6
namespace Go.Proofs.Ytbpdggdpgohilaa
open Go.RowKit
set_option linter.unusedVariables false
namespace Sa
def AbI (m : Nat) (a : Nat → Int) : Prop := ∀ j : Nat, 1 ≤ j → j < m → 0 ≤ a j ∧ a j < (j : Int)
theorem climb_ok {a : Nat → Int} {semi : Int} {i : Nat} (hs : 0 ≤ semi) (ha : AbI i a) : ∀ (f : Nat) (x : Int), 0 ≤ x → x < (i : Int) → 0 ≤ climb a semi f x ∧ climb a semi f x < (i : Int)
  | 0, x, h0, h1 => by rw [climb]; exact ⟨h0, h1⟩
  | f + 1, x, h0, h1 => by
    rw [climb]
    split
    · rename_i h
      have h2 := ha x.toNat (by omega) (by omega)
      exact climb_ok hs ha f _ h2.1 (by omega)
    · exact ⟨h0, h1⟩
theorem climb_no {a : Nat → Int} {semi x : Int} {f : Nat} (h : ¬ x > semi) : climb a semi f x = x := by
  cases f with
  | zero => rfl
  | succ f => rw [climb, if_neg h]
theorem climb_yes {a : Nat → Int} {semi x : Int} {f : Nat} (h : x > semi) : climb a semi (f + 1) x = climb a semi f (a x.toNat) := by rw [climb, if_pos h]
theorem aboveAll_succ (semi : Nat → Int) (k i : Nat) (a : Nat → Int) : aboveAll semi (k + 1) i a = aboveAll semi k (i + 1) (setF a i (climb a (semi i) (i + 1) (a i))) := rfl
theorem aboveAll_keep {semi : Nat → Int} : ∀ {k i : Nat} {a : Nat → Int} {j : Nat}, j < i → aboveAll semi k i a j = a j
  | 0, i, a, j, h => rfl
  | k + 1, i, a, j, h => by
    rw [aboveAll_succ, aboveAll_keep (k := k) (i := i + 1) (by omega)]
    unfold setF
    rw [if_neg (by omega)]
theorem AbI.set {m i : Nat} {a : Nat → Int} (h : AbI m a) {x : Int} (h0 : 0 ≤ x) (h1 : x < (i : Int)) : AbI m (setF a i x) := fun j hj hm => by
  unfold setF
  split
  · rename_i e; subst e; exact ⟨h0, h1⟩
  · exact h j hj hm
theorem aboveAll_ok {semi : Nat → Int} (hs : ∀ j, 0 ≤ semi j) {m : Nat} : ∀ {k i : Nat} {a : Nat → Int}, 1 ≤ i → i + k ≤ m → AbI m a → AbI m (aboveAll semi k i a)
  | 0, i, a, h1, h2, h => h
  | k + 1, i, a, h1, h2, h => by
    rw [aboveAll_succ]
    have h3 := h i h1 (by omega)
    have h4 := climb_ok (hs i) (fun j hj hm => h j hj (by omega) : AbI i a) (i + 1) (a i) h3.1 h3.2
    exact aboveAll_ok hs (by omega) (by omega) (h.set h4.1 h4.2)
theorem tops_succ (w : Wk) (a : Nat → Int) (k i : Nat) (t : Nat → Int) : tops w a (k + 1) i t = tops w a k (i + 1) (setF t (w.order.getD i 0).toNat (w.order.getD (a i).toNat 0)) := rfl
theorem tops_other {w : Wk} {a : Nat → Int} {b : Nat} : ∀ {k i : Nat} {t : Nat → Int}, (∀ j, i ≤ j → j < i + k → (w.order.getD j 0).toNat ≠ b) → tops w a k i t b = t b
  | 0, i, t, h => rfl
  | k + 1, i, t, h => by
    rw [tops_succ, tops_other (k := k) (i := i + 1) (fun j h1 h2 => h j (by omega) (by omega))]
    unfold setF
    rw [if_neg (fun e => h i (Nat.le_refl _) (by omega) e.symm)]
def oN (w : Wk) (j : Nat) : Nat := (w.order.getD j 0).toNat
theorem oN_inj {n : Nat} {w : Wk} (h : WkI n w) {i j : Nat} (hi : i < w.order.length) (hj : j < w.order.length) (e : oN w i = oN w j) : i = j := by
  obtain ⟨a, _, a1, a2⟩ := h.ord i hi
  obtain ⟨b, _, b1, b2⟩ := h.ord j hj
  unfold oN at e
  rw [a1, b1, Int.toNat_natCast, Int.toNat_natCast] at e
  subst e
  rw [a2] at b2
  omega
theorem oN_lt {n : Nat} {w : Wk} (h : WkI n w) {i : Nat} (hi : i < w.order.length) : oN w i < n ∧ w.order.getD i 0 = (oN w i : Int) := by
  obtain ⟨a, ha, a1, a2⟩ := h.ord i hi
  unfold oN
  rw [a1, Int.toNat_natCast]
  exact ⟨ha, rfl⟩
theorem tops_at {n : Nat} {w : Wk} (h : WkI n w) {a : Nat → Int} {j : Nat} : ∀ {k i : Nat} {t : Nat → Int}, i ≤ j → j < i + k → i + k ≤ w.order.length → tops w a k i t (oN w j) = w.order.getD (a j).toNat 0
  | 0, i, t, h1, h2, _ => by omega
  | k + 1, i, t, h1, h2, h3 => by
    rw [tops_succ]
    by_cases e : i = j
    · subst e
      rw [tops_other (fun q q1 q2 e => by have := oN_inj h (show q < w.order.length by omega) (show i < w.order.length by omega) e; omega)]
      unfold setF oN
      rw [if_pos rfl]
    · exact tops_at h (by omega) (by omega) (by omega)
/-- sums -/
def sumN (s : Nat → Int) (o : Nat → Nat) : Nat → Int
  | 0 => 0
  | k + 1 => sumN s o k + s (o k)
theorem sumN_congr {s s' : Nat → Int} {o : Nat → Nat} : ∀ {k : Nat}, (∀ j, j < k → s (o j) = s' (o j)) → sumN s o k = sumN s' o k
  | 0, _ => rfl
  | k + 1, h => by unfold sumN; rw [sumN_congr (k := k) (fun j hj => h j (by omega)), h k (by omega)]
theorem sumN_one {s : Nat → Int} {o : Nat → Nat} {p : Nat} {x : Int} : ∀ {k : Nat}, p < k → (∀ j, j < k → j ≠ p → o j ≠ o p) → sumN (setF s (o p) x) o k = sumN s o k - s (o p) + x
  | 0, h, _ => by omega
  | k + 1, h, hi => by
    unfold sumN
    by_cases e : p = k
    · subst e
      rw [sumN_congr (s := setF s (o p) x) (s' := s) (fun j hj => by unfold setF; rw [if_neg (hi j (by omega) (by omega))])]
      have : setF s (o p) x (o p) = x := by unfold setF; simp
      rw [this]; omega
    · rw [sumN_one (k := k) (by omega) (fun j hj => hi j (by omega))]
      have : setF s (o p) x (o k) = s (o k) := by unfold setF; rw [if_neg (hi k (by omega) (fun e2 => e e2.symm))]
      rw [this]; omega
theorem sumN_pos {s : Nat → Int} {o : Nat → Nat} (h : ∀ x, 0 ≤ s x) : ∀ k, 0 ≤ sumN s o k
  | 0 => Int.le_refl _
  | k + 1 => by unfold sumN; have := sumN_pos (o := o) h k; have := h (o k); omega
theorem sumN_ge {s : Nat → Int} {o : Nat → Nat} (h : ∀ x, 0 ≤ s x) {p : Nat} : ∀ {k : Nat}, p < k → s (o p) ≤ sumN s o k
  | 0, hp => by omega
  | k + 1, hp => by
    unfold sumN
    by_cases e : p = k
    · subst e; have := sumN_pos (o := o) h p; omega
    · have := sumN_ge (o := o) h (p := p) (k := k) (by omega); have := h (o k); omega
/-- what the rows of the tree are to be -/
structure LayI (n : Nat) (w : Wk) (ab : Nat → Int) : Prop where
  i : WkI n w
  z : w.order.getD 0 0 = 0
  p : ∀ j, 1 ≤ j → j < w.order.length → ∃ q, q < j ∧ ab (oN w j) = (oN w q : Int)
def szI (m : Nat) (w : Wk) (s : Nat → Int) (k : Nat) : Prop := (∀ x, 0 ≤ s x ∧ s x ≤ (m : Int)) ∧ sumN s (oN w) k + (k : Int) ≤ (m : Int)
theorem sumN_zero (o : Nat → Nat) : ∀ k, sumN (fun _ => 0) o k = 0
  | 0 => rfl
  | k + 1 => by unfold sumN; rw [sumN_zero o k]; rfl
theorem szI_start (m : Nat) (w : Wk) : szI m w (fun _ => 0) m := ⟨fun x => ⟨Int.le_refl _, by simp⟩, by rw [sumN_zero]; simp⟩
theorem szI_first {n : Nat} {w : Wk} {ab : Nat → Int} (h : LayI n w ab) {s : Nat → Int} {i : Nat} (hi : i < w.order.length) (hs : szI w.order.length w s (i + 1)) : 0 ≤ s (oN w i) ∧ s (oN w i) + 1 ≤ (w.order.length : Int) := by
  have h1 := sumN_ge (o := oN w) (fun x => (hs.1 x).1) (p := i) (k := i + 1) (by omega)
  have h2 := hs.2
  have h3 := (hs.1 (oN w i)).1
  exact ⟨h3, by omega⟩
theorem szI_zero {n : Nat} {w : Wk} {ab : Nat → Int} (h : LayI n w ab) {s : Nat → Int} (hm : 0 < w.order.length) (hs : szI w.order.length w s 1) : szI w.order.length w (setF s (oN w 0) (s (oN w 0) + 1)) 0 := by
  have h1 := szI_first h hm hs
  refine ⟨fun x => ?_, by unfold sumN; simp⟩
  unfold setF
  split
  · omega
  · exact hs.1 x
theorem szI_step {n : Nat} {w : Wk} {ab : Nat → Int} (h : LayI n w ab) {s : Nat → Int} {i q : Nat} (hi : i < w.order.length) (hq : q < i) (hs : szI w.order.length w s (i + 1)) : (0 ≤ s (oN w q) + (s (oN w i) + 1) ∧ s (oN w q) + (s (oN w i) + 1) ≤ (w.order.length : Int)) ∧ szI w.order.length w (setF (setF s (oN w i) (s (oN w i) + 1)) (oN w q) (s (oN w q) + (s (oN w i) + 1))) i := by
  have h1 := szI_first h hi hs
  have hne : oN w i ≠ oN w q := fun e => by have := oN_inj h.i hi (show q < w.order.length by omega) e; omega
  have hinj : ∀ j, j < i → j ≠ q → oN w j ≠ oN w q := fun j hj hjq e => hjq (oN_inj h.i (by omega) (by omega) e)
  have hinj2 : ∀ j, j < i → oN w j ≠ oN w i := fun j hj e => by have := oN_inj h.i (show j < w.order.length by omega) hi e; omega
  have e1 : sumN s (oN w) (i + 1) = sumN s (oN w) i + s (oN w i) := rfl
  have h2 := hs.2
  rw [e1] at h2
  have h3 := sumN_ge (o := oN w) (fun x => (hs.1 x).1) (p := q) (k := i) hq
  have h4 := (hs.1 (oN w q)).1
  have hb : s (oN w q) + (s (oN w i) + 1) ≤ (w.order.length : Int) := by omega
  refine ⟨⟨by omega, hb⟩, fun x => ?_, ?_⟩
  · unfold setF
    split
    · omega
    · split
      · omega
      · exact hs.1 x
  · have e2 := sumN_one (s := setF s (oN w i) (s (oN w i) + 1)) (o := oN w) (p := q) (x := s (oN w q) + (s (oN w i) + 1)) (k := i) hq hinj
    rw [e2]
    have e3 : sumN (setF s (oN w i) (s (oN w i) + 1)) (oN w) i = sumN s (oN w) i := sumN_congr (fun j hj => by unfold setF; rw [if_neg (hinj2 j hj)])
    have e4 : setF s (oN w i) (s (oN w i) + 1) (oN w q) = s (oN w q) := by unfold setF; rw [if_neg (fun e => hne e.symm)]
    rw [e3, e4]
    omega
theorem sizes_cons (above : Nat → Int) (b : Int) (l : List Int) (s : Nat → Int) : sizes above (b :: l) s = sizes above l (if b = 0 then setF s b.toNat (s b.toNat + 1) else setF (setF s b.toNat (s b.toNat + 1)) (above b.toNat).toNat ((setF s b.toNat (s b.toNat + 1)) (above b.toNat).toNat + (setF s b.toNat (s b.toNat + 1)) b.toNat)) := rfl
def firstSt (above size : Nat → Int) (b : Int) (s : (Nat → Int) × (Nat → Int)) : (Nat → Int) × (Nat → Int) :=
  let s1 := if b = 0 then (s.1, s.2) else (setF s.1 b.toNat (s.2 (above b.toNat).toNat), setF s.2 (above b.toNat).toNat (s.2 (above b.toNat).toNat + size b.toNat))
  (s1.1, setF s1.2 b.toNat (s1.1 b.toNat + 1))
theorem firsts_cons (above size : Nat → Int) (b : Int) (l : List Int) (s : (Nat → Int) × (Nat → Int)) : firsts above size (b :: l) s = firsts above size l (firstSt above size b s) := rfl
theorem firsts_nil (above size : Nat → Int) (s : (Nat → Int) × (Nat → Int)) : firsts above size [] s = s := rfl
def frI (K : Int) (s : (Nat → Int) × (Nat → Int)) : Prop := ∀ x, (0 ≤ s.1 x ∧ s.1 x ≤ K) ∧ 0 ≤ s.2 x ∧ s.2 x ≤ K
theorem frI_step {above size : Nat → Int} {b : Int} {s : (Nat → Int) × (Nat → Int)} {K m : Int} (hm : 1 ≤ m) (hz : ∀ x, 0 ≤ size x ∧ size x ≤ m) (h : frI K s) : frI (K + m) (firstSt above size b s) := fun x => by
  have h1 := h x
  have h2 := h (above b.toNat).toNat
  have h3 := h b.toNat
  have h4 := hz b.toNat
  unfold firstSt
  by_cases hb : b = 0
  · simp only [hb, if_true]
    unfold setF
    refine ⟨⟨h1.1.1, by omega⟩, ?_⟩
    rw [hb] at h3
    split
    · omega
    · omega
  · simp only [hb, if_false]
    unfold setF
    simp only [if_true]
    refine ⟨?_, ?_⟩
    · split <;> omega
    · split
      · omega
      · split <;> omega
end Sa
namespace Sa
theorem flow_wkO {bs : List Bl} (hw : waysB bs = true) (hf : flowB bs = true) : WkO bs (walk bs) := by
  obtain ⟨h0, h4, hwa⟩ := waysB_iff hw
  have hl := leads hw
  have hi := walk_ok hl h0
  rw [flowB_eq] at hf
  simp only [Bool.and_eq_true] at hf
  have h9 := hf.2
  refine ⟨hi, walk_first hl h0, fun b hb x hx => ?_⟩
  obtain ⟨p0, p1, p2⟩ := (wayB_iff (hwa b hb)).2.2.1 x hx
  obtain ⟨k, rfl⟩ : ∃ k : Nat, x = (k : Int) := ⟨x.toNat, by omega⟩
  rw [Int.toNat_natCast] at p2 ⊢
  have hk : k < bs.length := by omega
  have h8 := List.all_eq_true.1 h9 k (List.mem_range.2 hk)
  rw [Bool.or_eq_true, beq_iff_eq, bne_iff_ne] at h8
  rcases h8 with h8 | h8
  · exact absurd h8 p2
  · rcases hi.rk k hk with h7 | ⟨j, hj, h7, _⟩
    · exact absurd h7 h8
    · rw [h7]; exact ⟨p0, p1, by omega, by omega⟩
theorem lsIn_vals {c : Cd} {b : Nat} : ∀ {l : List Int} {i : Nat} {ph : Bool} {s : Ls}, (lsIn c b l i ph s).1 = true → ∀ x, x ∈ l → isVal c x = true
  | [], _, _, _, _, x, hx => by simp at hx
  | n :: l, i, ph, s, h, x, hx => by
    rw [lsIn] at h
    split at h
    · rename_i h1
      simp only [Bool.and_eq_true] at h1
      rcases List.mem_cons.1 hx with rfl | hx
      · exact h1.1.1
      · exact lsIn_vals h x hx
    · cases h
theorem lsAll_vals {c : Cd} : ∀ {l : List Bl} {b : Nat} {s : Ls}, (lsAll c l b s).1 = true → ∀ x, x ∈ l → ∀ y, y ∈ x.list → isVal c y = true
  | [], _, _, _, x, hx => by simp at hx
  | z :: l, b, s, h, x, hx => by
    rw [lsAll] at h
    split at h
    · rename_i h1
      rcases List.mem_cons.1 hx with rfl | hx
      · exact lsIn_vals h1
      · exact lsAll_vals h x hx
    · cases h
theorem tops_rng {w : Wk} {a : Nat → Int} {n : Nat} (ho : ∀ j : Nat, 0 ≤ w.order.getD j 0 ∧ w.order.getD j 0 < (n : Int)) : ∀ {k i : Nat} {t : Nat → Int}, (∀ b, 0 ≤ t b ∧ t b < (n : Int)) → ∀ b, 0 ≤ tops w a k i t b ∧ tops w a k i t b < (n : Int)
  | 0, i, t, h, b => h b
  | k + 1, i, t, h, b => by
    rw [tops_succ]
    refine tops_rng ho (fun q => ?_) b
    unfold setF
    split
    · exact ho _
    · exact h q
structure FormP (u : Un) (c : Cd) : Prop where
  vl : c.values.length ≤ 16384
  ws : waysB c.blocks = true
  li : (lists c).1 = true
  vs : valsB u c (lists c).2 c.values 0 = true
  es : c.blocks.all (endB c) = true
end Sa
namespace Dm
/-- ways: every place on them is such -/
inductive Wy (E : Nat → Nat → Prop) (P : Nat → Prop) : Nat → Nat → Prop
  | refl {u : Nat} (h : P u) : Wy E P u u
  | step {u v x : Nat} (h : Wy E P u v) (he : E v x) (hx : P x) : Wy E P u x
theorem Wy.mono {E : Nat → Nat → Prop} {P Q : Nat → Prop} (hPQ : ∀ y, P y → Q y) {u v : Nat} (h : Wy E P u v) : Wy E Q u v := by
  induction h with
  | refl h => exact .refl (hPQ _ h)
  | step h he hx ih => exact .step ih he (hPQ _ hx)
theorem Wy.fst {E : Nat → Nat → Prop} {P : Nat → Prop} {u v : Nat} (h : Wy E P u v) : P u := by
  induction h with
  | refl h => exact h
  | step h he hx ih => exact ih
theorem Wy.lst {E : Nat → Nat → Prop} {P : Nat → Prop} {u v : Nat} (h : Wy E P u v) : P v := by
  cases h with
  | refl h => exact h
  | step h he hx => exact hx
theorem Wy.trans {E : Nat → Nat → Prop} {P : Nat → Prop} {u v x : Nat} (h : Wy E P u v) (g : Wy E P v x) : Wy E P u x := by
  induction g with
  | refl _ => exact h
  | step g he hx ih => exact .step ih he hx
/-- a walk deep ahead of wide: places by number, where each one's own come to an end -/
structure Tr (n : Nat) (E : Nat → Nat → Prop) (par fin : Nat → Nat) : Prop where
  f1 : ∀ i, i < n → i < fin i ∧ fin i ≤ n
  f2 : ∀ i j, i < n → i ≤ j → j < fin i → fin j ≤ fin i
  p1 : ∀ i, 0 < i → i < n → par i < i ∧ i < fin (par i)
  p2 : ∀ i j, 0 < i → i < n → j < i → i < fin j → j ≤ par i
  e0 : ∀ u v, E u v → u < n ∧ v < n
  e1 : ∀ u v, E u v → u < v → v < fin u
  e2 : ∀ i, 0 < i → i < n → E (par i) i
section
variable {n : Nat} {E : Nat → Nat → Prop} {par fin : Nat → Nat}
/-- the tree's way to what stands below -/
theorem Tr.down (h : Tr n E par fin) {q : Nat} : ∀ p, p < n → q ≤ p → p < fin q → Wy E (fun y => q ≤ y ∧ y ≤ p ∧ p < fin y) q p := by
  intro p
  induction p using Nat.strongRecOn with
  | _ p ih =>
    intro hp hq hf
    by_cases e : p = q
    · subst e; exact .refl ⟨Nat.le_refl _, Nat.le_refl _, hf⟩
    · have h0 : 0 < p := by omega
      have h1 := h.p1 p h0 hp
      have h2 := h.p2 p q h0 hp (by omega) hf
      have h3 := ih (par p) h1.1 (by omega) h2 (by omega)
      refine .step (h3.mono fun y hy => ⟨hy.1, by omega, ?_⟩) (h.e2 p h0 hp) ⟨hq, Nat.le_refl _, (h.f1 p hp).1⟩
      have := h.f2 y (par p) (by omega) hy.2.1 hy.2.2
      omega
theorem Tr.zero (h : Tr n E par fin) : ∀ p, p < n → p < fin 0 := by
  intro p
  induction p using Nat.strongRecOn with
  | _ p ih =>
    intro hp
    by_cases e : p = 0
    · subst e; exact (h.f1 0 hp).1
    · have h1 := h.p1 p (by omega) hp
      have h2 := ih (par p) h1.1 (by omega)
      have := h.f2 0 (par p) (by omega) (by omega) h2
      omega
theorem Tr.top (h : Tr n E par fin) {p : Nat} (hp : p < n) : Wy E (fun y => y ≤ p ∧ p < fin y) 0 p := (h.down p hp (Nat.zero_le _) (h.zero p hp)).mono fun y hy => hy.2
/-- the least place of a way stands above its end -/
theorem Tr.least (h : Tr n E par fin) {P : Nat → Prop} {x p : Nat} (hw : Wy E P x p) (hx : x < n) : p < n ∧ ∃ m, P m ∧ m ≤ p ∧ p < fin m ∧ m ≤ x ∧ Wy E (fun y => P y ∧ m ≤ y) x p ∧ (m = x ∨ ∃ p', Wy E (fun y => P y ∧ m < y) x p' ∧ E p' m) := by
  induction hw with
  | refl hp => exact ⟨hx, x, hp, Nat.le_refl _, (h.f1 _ hx).1, Nat.le_refl _, .refl ⟨hp, Nat.le_refl _⟩, .inl rfl⟩
  | step hw he hq ih =>
    rename_i v w
    obtain ⟨hv, m, hm, h1, h2, hmx, h3, h4⟩ := ih
    have hwn := (h.e0 _ _ he).2
    refine ⟨hwn, ?_⟩
    by_cases hmw : m ≤ w
    · refine ⟨m, hm, hmw, ?_, hmx, .step h3 he ⟨hq, hmw⟩, h4⟩
      by_cases hvw : v < w
      · have := h.e1 _ _ he hvw
        have := h.f2 m v (by omega) h1 h2
        omega
      · omega
    · exact ⟨w, hq, Nat.le_refl _, (h.f1 w hwn).1, by omega, .step (h3.mono fun y hy => ⟨hy.1, by omega⟩) he ⟨hq, Nat.le_refl _⟩, .inr ⟨v, h3.mono fun y hy => ⟨hy.1, by omega⟩, he⟩⟩
/-- from u a way comes to i by greater ones alone -/
def SP (E : Nat → Nat → Prop) (i u : Nat) : Prop := E u i ∨ ∃ x p, E u x ∧ Wy E (fun y => i < y) x p ∧ E p i
def Semi (E : Nat → Nat → Prop) (i s : Nat) : Prop := SP E i s ∧ ∀ u, SP E i u → s ≤ u
/-- what is asked when i's turn has come -/
def Ask (E : Nat → Nat → Prop) (fin sem : Nat → Nat) (i s : Nat) : Prop := (E s i ∧ s ≤ i) ∨ ∃ q p, E p i ∧ i < q ∧ q ≤ p ∧ p < fin q ∧ s = sem q
theorem Tr.semi (h : Tr n E par fin) {sem : Nat → Nat} {i s : Nat} (h0 : 0 < i) (hi : i < n) (hs : ∀ q, i < q → q < n → Semi E q (sem q)) (h1 : Ask E fin sem i s) (h2 : ∀ u, Ask E fin sem i u → s ≤ u) : Semi E i s := by
  refine ⟨?_, fun u hu => ?_⟩
  · rcases h1 with h1 | ⟨q, p, he, hq, hqp, hpf, rfl⟩
    · exact .inl h1.1
    · have hp := (h.e0 _ _ he).1
      have hd := h.down p hp hqp hpf
      have hd2 : Wy E (fun y => i < y) q p := hd.mono fun y hy => by omega
      rcases (hs q hq (by omega)).1 with h3 | ⟨x, p', h3, h4, h5⟩
      · exact .inr ⟨q, p, h3, hd2, he⟩
      · exact .inr ⟨x, p, h3, (Wy.step (h4.mono fun y hy => by omega) h5 hq).trans hd2, he⟩
  · have hp := h.p1 i h0 hi
    have h3 := h2 (par i) (.inl ⟨h.e2 i h0 hi, by omega⟩)
    by_cases hui : i ≤ u
    · omega
    · rcases hu with hu | ⟨x, p, hu, hw, he⟩
      · exact h2 u (.inl ⟨hu, by omega⟩)
      · have hx := (h.e0 _ _ hu).2
        obtain ⟨hpn, m, hm, h4, h5, _, _, h7⟩ := h.least hw hx
        have h8 := h2 (sem m) (.inr ⟨m, p, he, hm, h4, h5, rfl⟩)
        have h9 := (hs m hm (by omega)).2 u (by
          rcases h7 with rfl | ⟨p', h7, h10⟩
          · exact .inl hu
          · exact .inr ⟨x, p', hu, h7.mono fun y hy => hy.2, h10⟩)
        omega
/-- x stands on each way to k -/
def Dom (E : Nat → Nat → Prop) (x k : Nat) : Prop := ¬ Wy E (fun y => y ≠ x) 0 k
theorem Tr.dom_anc (h : Tr n E par fin) {x k : Nat} (hk : k < n) (hd : Dom E x k) : x ≤ k ∧ k < fin x := by
  refine Decidable.byContradiction fun hc => hd ?_
  exact (h.top hk).mono fun y hy => by rintro rfl; exact hc hy
theorem last_low {x w : Nat} (hx : 0 < x) (h : Wy E (fun y => y ≠ x) 0 w) (hw : x < w) : ∃ u y, u < x ∧ E u y ∧ Wy E (fun y => x < y) y w := by
  have h9 : ∀ v k, Wy E (fun y => y ≠ x) v k → v = 0 → x < k → ∃ u y, u < x ∧ E u y ∧ Wy E (fun y => x < y) y k := by
    intro v k h
    induction h with
    | refl _ => intro e hk; omega
    | step h he hq ih =>
      intro e hk
      rename_i v w
      have hv := h.lst
      by_cases hvx : v < x
      · exact ⟨v, w, hvx, he, .refl hk⟩
      · obtain ⟨u, y, h1, h2, h3⟩ := ih e (by omega)
        exact ⟨u, y, h1, h2, .step h3 he hk⟩
  exact h9 0 w h rfl hw
/-- who dominates w: those that dominate the one above it in the walk's tree, up to the semidominator -/
theorem Tr.dom_iff (h : Tr n E par fin) {w s x : Nat} (h0 : 0 < w) (hw : w < n) (hs : Semi E w s) (hx : x ≠ w) : Dom E x w ↔ Dom E x (par w) ∧ x ≤ s := by
  have hp := h.p1 w h0 hw
  have hsp : s ≤ par w := hs.2 _ (.inl (h.e2 w h0 hw))
  constructor
  · intro hd
    refine ⟨fun hc => hd (.step hc (h.e2 w h0 hw) (fun e => hx e.symm)), ?_⟩
    have hxw := (h.dom_anc hw hd).1
    refine Decidable.byContradiction fun hxs => hd ?_
    have ht : Wy E (fun y => y ≠ x) 0 s := (h.top (by omega)).mono fun y hy => by omega
    rcases hs.1 with h1 | ⟨x1, p', h1, h2, h3⟩
    · exact .step ht h1 (fun e => hx e.symm)
    · have h4 : Wy E (fun y => y ≠ x) x1 p' := h2.mono fun y hy => by omega
      exact .step ((Wy.step ht h1 h4.fst).trans h4) h3 (fun e => hx e.symm)
  · rintro ⟨hd, hxs⟩ hc
    have hx0 : 0 < x := by
      rcases Nat.eq_zero_or_pos x with rfl | h1
      · exact absurd rfl hc.fst
      · exact h1
    have han := h.dom_anc (by omega) hd
    obtain ⟨u, y1, hu, he, hwy⟩ := last_low hx0 hc (by omega)
    obtain ⟨_, m, hm, h4, h5, _, _, h7⟩ := h.least hwy (h.e0 _ _ he).2
    have hsm : SP E m u := by
      rcases h7 with rfl | ⟨p', h7, h10⟩
      · exact .inl he
      · exact .inr ⟨y1, p', he, h7.mono fun y hy => hy.2, h10⟩
    by_cases hmw : m = w
    · subst hmw
      have := hs.2 u hsm
      omega
    · have hmp := h.p2 w m h0 hw (by omega) h5
      apply hd
      have ht : Wy E (fun y => y ≠ x) 0 u := (h.top (h.e0 _ _ he).1).mono fun y hy => by omega
      have hd2 : Wy E (fun y => y ≠ x) m (par w) := (h.down (par w) (by omega) hmp (by omega)).mono fun y hy => by omega
      rcases hsm with h8 | ⟨x1, p', h8, h9, h10⟩
      · exact (Wy.step ht h8 hd2.fst).trans hd2
      · have h11 : Wy E (fun y => y ≠ x) x1 p' := h9.mono fun y hy => by omega
        exact (Wy.step ((Wy.step ht h8 h11.fst).trans h11) h10 hd2.fst).trans hd2
/-- the row above a place -/
inductive Up (D : Nat → Nat) (x : Nat) : Nat → Prop
  | refl : Up D x x
  | step {k : Nat} (h0 : 0 < k) (h : Up D x (D k)) : Up D x k
theorem Up.le {D : Nat → Nat} (hD : ∀ k, 0 < k → k < n → D k < k) {x k : Nat} (h : Up D x k) (hk : k < n) : x ≤ k := by
  induction h with
  | refl => exact Nat.le_refl _
  | step h0 h ih =>
    have := hD _ h0 hk
    have := ih (by omega)
    omega
theorem Up.trans {D : Nat → Nat} {x y k : Nat} (h : Up D x y) (g : Up D y k) : Up D x k := by
  induction g with
  | refl => exact h
  | step h0 g ih => exact .step h0 ih
/-- **who dominates: the row above** -/
theorem Tr.doms (h : Tr n E par fin) {sem D : Nat → Nat} (hs : ∀ k, 0 < k → k < n → Semi E k (sem k)) (hD : ∀ k, 0 < k → k < n → Up D (D k) (par k) ∧ D k ≤ sem k ∧ ∀ x, Up D x (par k) → x ≤ sem k → Up D x (D k)) : ∀ k, k < n → ∀ x, Up D x k ↔ Dom E x k := by
  have hlt : ∀ k, k ≤ n → ∀ j, 0 < j → j < k → D j < j := by
    intro k
    induction k with
    | zero => intro _ j _ hj; omega
    | succ k ih =>
      intro hk j hj0 hj
      by_cases e : j = k
      · subst e
        have h1 := h.p1 j hj0 (by omega)
        have h2 := (hD j hj0 (by omega)).1.le (n := j) (fun i hi0 hi => ih (by omega) i hi0 hi) h1.1
        omega
      · exact ih (by omega) j hj0 (by omega)
  have hlt2 : ∀ k, 0 < k → k < n → D k < k := fun k h0 hk => hlt n (Nat.le_refl _) k h0 hk
  intro k
  induction k using Nat.strongRecOn with
  | _ k ih =>
    intro hk x
    by_cases hxk : x = k
    · subst hxk
      exact ⟨fun _ hc => hc.lst rfl, fun _ => .refl⟩
    · by_cases h0 : k = 0
      · subst h0
        constructor
        · intro hu
          cases hu with
          | refl => exact absurd rfl hxk
          | step h0 _ => omega
        · intro hd
          exact absurd (Wy.refl (fun e => hxk e.symm)) hd
      · have h0 : 0 < k := by omega
        have hp := h.p1 k h0 hk
        obtain ⟨d1, d2, d3⟩ := hD k h0 hk
        rw [h.dom_iff h0 hk (hs k h0 hk) hxk, ← ih (par k) hp.1 (by omega) x]
        constructor
        · intro hu
          cases hu with
          | refl => exact absurd rfl hxk
          | step _ hu =>
            refine ⟨hu.trans d1, ?_⟩
            have := hu.le hlt2 (by have := hlt2 k h0 hk; omega)
            omega
        · rintro ⟨hu, hxs⟩
          exact .step h0 (d3 x hu hxs)
end
end Dm
namespace Sa
theorem getD_left {l m : List Int} {j : Nat} (h : j < l.length) : (l ++ m).getD j 0 = l.getD j 0 := by
  simp only [List.getD_eq_getElem?_getD]
  rw [List.getElem?_append_left h]
theorem WkX.ord_at {a b : Wk} (h : WkX a b) {j : Nat} (hj : j < a.order.length) : b.order.getD j 0 = a.order.getD j 0 := by
  obtain ⟨⟨l, hl⟩, _⟩ := h
  rw [hl, getD_left hj]
theorem WkX.par_at {a b : Wk} (h : WkX a b) {j : Nat} (hj : j < a.parent.length) : b.parent.getD j 0 = a.parent.getD j 0 := by
  obtain ⟨_, ⟨l, hl⟩⟩ := h
  rw [hl, getD_left hj]
theorem WkX.rank_at {n : Nat} {a b : Wk} (h : WkX a b) (ha : WkI n a) (hb : WkI n b) {x : Nat} (hx : x < n) (hr : a.rank x ≠ -1) : b.rank x = a.rank x := by
  rcases ha.rk x hx with h1 | ⟨j, hj, h1, h2⟩
  · exact absurd h1 hr
  · obtain ⟨q, hq, h3, h4⟩ := hb.ord j (by have := h.len; omega)
    rw [h.ord_at hj, h2] at h3
    have : q = x := by omega
    subst this
    rw [h4, h1]
/-- what is so of all that has been come to -/
structure DS (bs : List Bl) (w : Wk) : Prop where
  s : ∀ i k : Nat, i < w.order.length → w.parent.getD i 0 < (k : Int) → k < i → w.parent.getD i 0 ≤ w.parent.getD k 0
  t : ∀ i : Nat, 0 < i → i < w.order.length → w.order.getD i 0 ∈ (bs.getD (w.order.getD (w.parent.getD i 0).toNat 0).toNat bl0).succs
/-- .. of one that is left -/
def EdP (bs : List Bl) (w : Wk) (u : Nat) : Prop := ∀ x, x ∈ (bs.getD (w.order.getD u 0).toNat bl0).succs → w.rank x.toNat ≠ -1 ∧ ∀ k : Nat, u < k → (k : Int) ≤ w.rank x.toNat → (u : Int) ≤ w.parent.getD k 0
theorem EdP.keep {bs : List Bl} (hs : Leads bs) {a b : Wk} (h : WkX a b) (ha : WkI bs.length a) (hb : WkI bs.length b) {u : Nat} (hu : u < a.order.length) (he : EdP bs a u) : EdP bs b u := fun x hx => by
  rw [h.ord_at hu] at hx
  obtain ⟨q, hq, h1, _⟩ := ha.ord u hu
  have hxr := hs q hq x (by rw [h1, Int.toNat_natCast] at hx; exact hx)
  obtain ⟨h2, h3⟩ := he x hx
  have hxn : x.toNat < bs.length := by omega
  rw [h.rank_at ha hb hxn h2]
  refine ⟨h2, fun k hk hkr => ?_⟩
  have hkl : k < a.parent.length := by
    rcases ha.rk x.toNat hxn with h4 | ⟨j, hj, h4, _⟩
    · exact absurd h4 h2
    · rw [← ha.len]; omega
  rw [h.par_at hkl]
  exact h3 k hk hkr
structure VO (bs : List Bl) (w w' : Wk) : Prop where
  i : WkI bs.length w'
  x : WkX w w'
  d : DS bs w'
  e : ∀ u, w.order.length ≤ u → u < w'.order.length → EdP bs w' u
theorem VO.trans {bs : List Bl} (hs : Leads bs) {a b c : Wk} (h : VO bs a b) (g : VO bs b c) : VO bs a c := ⟨g.i, h.x.trans g.x, g.d, fun u hu hu2 => by
  by_cases hub : u < b.order.length
  · exact (h.e u hu hub).keep hs g.x h.i g.i hub
  · exact g.e u (by omega) hu2⟩
/-- all above own hang on it -/
def NN (own : Nat) (w : Wk) : Prop := ∀ k : Nat, own < k → k < w.order.length → (own : Int) ≤ w.parent.getD k 0
def FD (bs : List Bl) (f : Nat) : Prop := ∀ (b : Nat) (p : Int) (w : Wk), b < bs.length → w.rank b = -1 → (-1 ≤ p ∧ p < (w.order.length : Int) ∧ (0 < w.order.length → 0 ≤ p)) → WkI bs.length w → DS bs w → (∀ k : Nat, p < (k : Int) → k < w.order.length → p ≤ w.parent.getD k 0) → (0 < w.order.length → (b : Int) ∈ (bs.getD (w.order.getD p.toNat 0).toNat bl0).succs) → un w.rank bs.length ≤ f →
  VO bs w (visit bs f b p w) ∧ NN w.order.length (visit bs f b p w) ∧ (visit bs f b p w).rank b ≠ -1
theorem visits_fd {bs : List Bl} (hs : Leads bs) {f : Nat} (ih : FD bs f) {own : Nat} : ∀ {l : List Int} {w : Wk}, (∀ x, x ∈ l → x ∈ (bs.getD (w.order.getD own 0).toNat bl0).succs) → own < w.order.length → WkI bs.length w → DS bs w → NN own w → un w.rank bs.length ≤ f →
    VO bs w (visits bs f own l w) ∧ NN own (visits bs f own l w) ∧ ∀ x, x ∈ l → (visits bs f own l w).rank x.toNat ≠ -1
  | [], w, _, _, h, hd, hn, _ => by
    rw [visits]
    exact ⟨⟨h, .refl _, hd, fun u hu hu2 => by omega⟩, hn, fun x hx => by simp at hx⟩
  | s :: l, w, hl, ho, h, hd, hn, hu => by
    rw [visits]
    obtain ⟨q, hq, h1, _⟩ := h.ord own ho
    have hsr := hs q hq s (by have := hl s (by simp); rw [h1, Int.toNat_natCast] at this; exact this)
    obtain ⟨k, rfl⟩ : ∃ k : Nat, s = (k : Int) := ⟨s.toNat, by omega⟩
    have hk : k < bs.length := by omega
    rw [Int.toNat_natCast]
    split
    · rename_i hrk
      obtain ⟨v1, v2, v3⟩ := ih k own w hk hrk ⟨by omega, by omega, by omega⟩ h hd (fun j hj hj2 => hn j (by omega) hj2) (fun _ => by rw [Int.toNat_natCast]; exact hl _ (by simp)) hu
      have hlen := v1.x.len
      have hn2 : NN own (visit bs f k own w) := fun j hj hj2 => by
        by_cases hjw : j < w.order.length
        · rw [v1.x.par_at (by rw [← h.len]; exact hjw)]; exact hn j hj hjw
        · by_cases hje : j = w.order.length
          · rcases Nat.lt_or_ge own j with hoj | hoj
            · have := (v1.i.par j hj2)
              have e9 : (visit bs f k own w).parent.getD j 0 = own := by
                subst hje
                cases f with
                | zero => have := un_pos hrk hk; omega
                | succ f =>
                  rw [visit, Int.toNat_natCast] at hj2 ⊢
                  have h2 := h.on hk hrk (p := (own : Int)) ⟨by omega, by omega, by omega⟩
                  have h3 := visits_keeps (visit_keeps hs f) (own := w.order.length) (l := (bs.getD k bl0).succs) (w := w.on k own) (hs k hk) (by show _ < (w.order ++ [(k : Int)]).length; simp) h2
                  have hpl : (w.on k (own : Int)).parent = w.parent ++ [(own : Int)] := rfl
                  rw [h3.2.par_at (by rw [hpl, List.length_append, ← h.len]; simp), hpl, getD_app, if_neg (by rw [h.len]; omega), if_pos h.len]
              rw [e9]; omega
            · omega
          · have := v2 j (by omega) hj2
            omega
      have hl2 : ∀ x, x ∈ l → x ∈ (bs.getD ((visit bs f k own w).order.getD own 0).toNat bl0).succs := fun x hx => by rw [v1.x.ord_at ho]; exact hl x (by simp [hx])
      obtain ⟨r1, r2, r3⟩ := visits_fd hs ih (l := l) (own := own) (w := visit bs f k own w) hl2 (by omega) v1.i v1.d hn2 (by
        have e1 := h.cnt
        have e2 := v1.i.cnt
        omega)
      refine ⟨v1.trans hs r1, r2, fun x hx => ?_⟩
      rcases List.mem_cons.1 hx with rfl | hx
      · rw [Int.toNat_natCast, r1.x.rank_at v1.i r1.i hk v3]; exact v3
      · exact r3 x hx
    · rename_i hrk
      obtain ⟨r1, r2, r3⟩ := visits_fd hs ih (l := l) (own := own) (w := w) (fun x hx => hl x (by simp [hx])) ho h hd hn hu
      refine ⟨r1, r2, fun x hx => ?_⟩
      rcases List.mem_cons.1 hx with rfl | hx
      · rw [Int.toNat_natCast, r1.x.rank_at h r1.i hk hrk]; exact hrk
      · exact r3 x hx
theorem visit_fd {bs : List Bl} (hs : Leads bs) : ∀ f, FD bs f
  | 0 => fun b p w hb hr hp h _ _ _ hu => by have := un_pos hr hb; omega
  | f + 1 => fun b p w hb hr hp h hd hq ht hu => by
    have h1 := h.on hb hr hp
    have eo : (w.on b p).order = w.order ++ [(b : Int)] := rfl
    have ep : (w.on b p).parent = w.parent ++ [p] := rfl
    have elen : (w.on b p).order.length = w.order.length + 1 := by rw [eo]; simp
    have hpar : ∀ j, j < w.order.length → (w.on b p).parent.getD j 0 = w.parent.getD j 0 := fun j hj => by rw [ep, getD_left (by rw [← h.len]; exact hj)]
    have hparn : (w.on b p).parent.getD w.order.length 0 = p := by rw [ep, getD_app, if_neg (by rw [h.len]; omega), if_pos h.len]
    have hord : ∀ j, j < w.order.length → (w.on b p).order.getD j 0 = w.order.getD j 0 := fun j hj => by rw [eo, getD_left hj]
    have hordn : (w.on b p).order.getD w.order.length 0 = (b : Int) := by rw [eo, getD_app, if_neg (by omega), if_pos rfl]
    have hd1 : DS bs (w.on b p) := ⟨fun i k hi hk hki => by
      rw [elen] at hi
      by_cases e : i = w.order.length
      · subst e
        rw [hparn] at hk ⊢
        rw [hpar k hki]
        exact hq k hk hki
      · have hil : i < w.order.length := by omega
        rw [hpar i hil] at hk ⊢
        rw [hpar k (by omega)]
        exact hd.s i k hil hk hki, fun i h0 hi => by
      rw [elen] at hi
      by_cases e : i = w.order.length
      · subst e
        rw [hparn, hordn, hord p.toNat (by have := hp.2.1; omega)]
        exact ht h0
      · have hil : i < w.order.length := by omega
        rw [hpar i hil, hord i hil, hord (w.parent.getD i 0).toNat (by have := (h.par i hil).2.1; omega)]
        exact hd.t i h0 hil⟩
    have hu1 : un (w.on b p).rank bs.length ≤ f := by
      have e1 := h.cnt
      have e2 := h1.cnt
      omega
    obtain ⟨r1, r2, r3⟩ := visits_fd hs (visit_fd hs f) (own := w.order.length) (l := (bs.getD b bl0).succs) (w := w.on b p) (fun x hx => by rw [hordn, Int.toNat_natCast]; exact hx) (by omega) h1 hd1 (fun k hk hk2 => by omega) hu1
    have ev : visit bs (f + 1) b p w = visits bs f w.order.length (bs.getD b bl0).succs (w.on b p) := by rw [visit, Int.toNat_natCast]
    rw [ev]
    have hrb : (w.on b p).rank b ≠ -1 := by
      have : (w.on b p).rank b = (w.order.length : Int) := by unfold Wk.on setF; simp
      omega
    refine ⟨⟨r1.i, (WkX.on w b p).trans r1.x, r1.d, fun u hu1 hu2 => ?_⟩, r2, by rw [r1.x.rank_at h1 r1.i hb hrb]; exact hrb⟩
    by_cases e : u = w.order.length
    · subst e
      intro x hx
      rw [r1.x.ord_at (by omega), hordn, Int.toNat_natCast] at hx
      refine ⟨r3 x hx, fun k hk hkr => r2 k hk ?_⟩
      have hxr := hs b hb x hx
      rcases r1.i.rk x.toNat (by omega) with h4 | ⟨j, hj, h4, _⟩
      · exact absurd h4 (r3 x hx)
      · omega
    · exact r1.e u (by omega) hu2
/-- **the whole walk** -/
theorem walk_fd {bs : List Bl} (hs : Leads bs) (h0 : 0 < bs.length) : WkI bs.length (walk bs) ∧ DS bs (walk bs) ∧ ∀ u, u < (walk bs).order.length → EdP bs (walk bs) u := by
  have h1 := visit_fd hs bs.length 0 (-1) wk0 h0 rfl ⟨by omega, by simp [wk0], by simp [wk0]⟩ (wk0_ok _) ⟨fun i k hi => by simp [wk0] at hi, fun i _ hi => by simp [wk0] at hi⟩ (fun k _ hk => by simp [wk0] at hk) (fun h => by simp [wk0] at h) (by unfold wk0; rw [un0]; exact Nat.le_refl _)
  exact ⟨h1.1.i, h1.1.d, fun u hu => h1.1.e u (by simp [wk0]) hu⟩
/- the tree -/
def finF (par : Nat → Nat) (i : Nat) : Nat → Nat → Nat
  | 0, j => j
  | f + 1, j => if par j < i then j else finF par i f (j + 1)
theorem finF_ok (par : Nat → Nat) (i : Nat) : ∀ f j, j ≤ finF par i f j ∧ finF par i f j ≤ j + f ∧ (∀ k, j ≤ k → k < finF par i f j → i ≤ par k) ∧ (finF par i f j < j + f → par (finF par i f j) < i)
  | 0, j => by unfold finF; exact ⟨Nat.le_refl _, Nat.le_refl _, fun k h1 h2 => by omega, fun h => by omega⟩
  | f + 1, j => by
    unfold finF
    split
    · rename_i h
      exact ⟨Nat.le_refl _, by omega, fun k h1 h2 => by omega, fun _ => h⟩
    · rename_i h
      obtain ⟨h1, h2, h3, h4⟩ := finF_ok par i f (j + 1)
      refine ⟨by omega, by omega, fun k hk hk2 => ?_, fun hk => h4 (by omega)⟩
      by_cases e : k = j
      · subst e; omega
      · exact h3 k (by omega) hk2
def parN (w : Wk) (i : Nat) : Nat := (w.parent.getD i 0).toNat
def finN (w : Wk) (i : Nat) : Nat := finF (parN w) i (w.order.length - (i + 1)) (i + 1)
/-- ways between places of the walk -/
def edge (bs : List Bl) (w : Wk) (u v : Nat) : Prop := u < w.order.length ∧ v < w.order.length ∧ w.order.getD v 0 ∈ (bs.getD (w.order.getD u 0).toNat bl0).succs
theorem walk_tr {bs : List Bl} (hs : Leads bs) (h0 : 0 < bs.length) : Dm.Tr (walk bs).order.length (edge bs (walk bs)) (parN (walk bs)) (finN (walk bs)) := by
  obtain ⟨hi, hd, he⟩ := walk_fd hs h0
  obtain ⟨w, hw⟩ : ∃ w, w = walk bs := ⟨_, rfl⟩
  rw [← hw] at hi hd he ⊢
  have hpar : ∀ i, 0 < i → i < w.order.length → w.parent.getD i 0 = (parN w i : Int) ∧ parN w i < i := fun i h1 h2 => by
    have := hi.par i h2
    unfold parN
    omega
  have hfin : ∀ i, i < w.order.length → i < finN w i ∧ finN w i ≤ w.order.length ∧ (∀ k, i < k → k < finN w i → i ≤ parN w k) ∧ (finN w i < w.order.length → parN w (finN w i) < i) := fun i h1 => by
    obtain ⟨h2, h3, h4, h5⟩ := finF_ok (parN w) i (w.order.length - (i + 1)) (i + 1)
    unfold finN
    exact ⟨by omega, by omega, fun k hk hk2 => h4 k (by omega) hk2, fun hk => h5 (by omega)⟩
  refine ⟨fun i h1 => ⟨(hfin i h1).1, (hfin i h1).2.1⟩, fun i j h1 h2 h3 => ?_, fun i h1 h2 => ⟨(hpar i h1 h2).2, ?_⟩, fun i j h1 h2 h3 h4 => (hfin j (by omega)).2.2.1 i h3 h4, fun u v h1 => ⟨h1.1, h1.2.1⟩, fun u v h1 h2 => ?_, fun i h1 h2 => ?_⟩
  · obtain ⟨a1, a2, a3, a4⟩ := hfin i h1
    have hj : j < w.order.length := by omega
    obtain ⟨b1, b2, b3, b4⟩ := hfin j hj
    refine Decidable.byContradiction fun hc => ?_
    have := a4 (by omega)
    have := b3 (finN w i) (by omega) (by omega)
    omega
  · have hp := hpar i h1 h2
    obtain ⟨b1, b2, b3, b4⟩ := hfin (parN w i) (by omega)
    refine Decidable.byContradiction fun hc => ?_
    have h5 := b4 (by omega)
    by_cases e : finN w (parN w i) = i
    · rw [e] at h5; omega
    · have h6 := hd.s i (finN w (parN w i)) h2 (by omega) (by omega)
      have h7 := hpar (finN w (parN w i)) (by omega) (by omega)
      omega
  · obtain ⟨a1, a2, a3, a4⟩ := hfin u h1.1
    refine Decidable.byContradiction fun hc => ?_
    have h5 := a4 (by have := h1.2.1; omega)
    obtain ⟨h6, h7⟩ := he u h1.1 _ h1.2.2
    obtain ⟨q, hq, h8, h9⟩ := hi.ord v h1.2.1
    rw [h8, Int.toNat_natCast, h9] at h7
    have h10 := h7 (finN w u) a1 (by omega)
    have h11 := hpar (finN w u) (by omega) (by have := h1.2.1; omega)
    omega
  · have hp := hpar i h1 h2
    exact ⟨by omega, h2, hd.t i h1 h2⟩
end Sa
end Go.Proofs.Ytbpdggdpgohilaa
