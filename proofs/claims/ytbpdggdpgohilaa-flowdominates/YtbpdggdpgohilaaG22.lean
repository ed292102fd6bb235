/- Dominators, plain: what ssa and flow reckon are semidominators, and the row above each block its dominators. -/
import Derived.Test.YtbpdggdpgohilaaG21
import Derived.Test.YtbpdggdpgohilaaSaWs
namespace Go.Proofs.Ytbpdggdpgohilaa
open Go.RowKit
set_option linter.unusedVariables false
namespace Sa
section
variable {n : Nat} {E : Nat → Nat → Prop} {par fin : Nat → Nat}
/-- the forest: what is known of the numbers above i -/
structure JJ (n : Nat) (par fin : Nat → Nat) (sem : Nat → Int) (i : Nat) (s : Fo) : Prop where
  a : ∀ q, i < q → q < n → ∃ u : Nat, s.up q = u ∧ u < q ∧ q < fin u
  b : ∀ q, i < q → q < n → ∀ y : Nat, s.up q < (y : Int) → y ≤ q → q < fin y → i < y ∧ s.low q ≤ sem y
  c : ∀ q, i < q → q < n → ∃ y : Nat, s.up q < (y : Int) ∧ y ≤ q ∧ q < fin y ∧ s.low q = sem y
  d : ∀ q, 0 < q → q ≤ i → q < n → s.up q = par q
theorem least_succ (f : Nat) (q known : Int) (s : Fo) : least (f + 1) q known s = if q ≤ known then (q, s) else if s.up q.toNat > known then (min (s.low q.toNat) (least f (s.up q.toNat) known s).1, ⟨setF (least f (s.up q.toNat) known s).2.up q.toNat ((least f (s.up q.toNat) known s).2.up (s.up q.toNat).toNat), setF (least f (s.up q.toNat) known s).2.low q.toNat (min (s.low q.toNat) (least f (s.up q.toNat) known s).1)⟩) else (s.low q.toNat, s) := by rw [least]
theorem least_ok (h : Dm.Tr n E par fin) {sem : Nat → Int} {i : Nat} : ∀ (f q : Nat) (s : Fo), JJ n par fin sem i s → q < n → q ≤ i + f → JJ n par fin sem i (least f q i s).2 ∧ (q ≤ i → (least f q i s).1 = q) ∧ (i < q → (least f q i s).2.up q ≤ (i : Int) ∧ (∀ y : Nat, i < y → y ≤ q → q < fin y → (least f q i s).1 ≤ sem y) ∧ ∃ y : Nat, i < y ∧ y ≤ q ∧ q < fin y ∧ (least f q i s).1 = sem y)
  | 0, q, s, hJ, hq, hf => by
    unfold least
    exact ⟨hJ, fun _ => rfl, fun h9 => by omega⟩
  | f + 1, q, s, hJ, hq, hf => by
    by_cases hqi : q ≤ i
    · have e : least (f + 1) q i s = ((q : Int), s) := by unfold least; rw [if_pos (by omega)]
      rw [e]
      exact ⟨hJ, fun _ => rfl, fun h9 => by omega⟩
    · have hiq : i < q := by omega
      obtain ⟨u, hu, hu1, hu2⟩ := hJ.a q hiq hq
      by_cases hui : i < u
      · obtain ⟨r, hr⟩ : ∃ r, r = least f u i s := ⟨_, rfl⟩
        obtain ⟨j1, _, j3⟩ := least_ok h f u s hJ (by omega) (by omega)
        obtain ⟨k1, k2, y0, k3, k4, k5, k6⟩ := j3 hui
        rw [← hr] at j1 k1 k2 k6
        have e : least (f + 1) q i s = (min (s.low q) r.1, ⟨setF r.2.up q (r.2.up u), setF r.2.low q (min (s.low q) r.1)⟩) := by
          rw [hr, least_succ, if_neg (by omega), Int.toNat_natCast, hu, if_pos (by omega), Int.toNat_natCast]
        obtain ⟨u2, hv, hv1, hv2⟩ := j1.a u hui (by omega)
        have hfu := h.f2 u2 u (by omega) (by omega) hv2
        have hlo : ∀ y : Nat, i < y → y ≤ q → q < fin y → min (s.low q) r.1 ≤ sem y := fun y y1 y2 y3 => by
          by_cases hyu : u < y
          · have := (hJ.b q hiq hq y (by omega) y2 y3).2
            omega
          · have := k2 y y1 (by omega) (by omega)
            omega
        have hat : ∃ y : Nat, i < y ∧ y ≤ q ∧ q < fin y ∧ min (s.low q) r.1 = sem y := by
          by_cases hm : s.low q ≤ r.1
          · obtain ⟨y, y1, y2, y3, y4⟩ := hJ.c q hiq hq
            exact ⟨y, by omega, y2, y3, by omega⟩
          · have := h.f2 y0 u (by omega) k4 k5
            exact ⟨y0, k3, by omega, by omega, by omega⟩
        rw [e]
        refine ⟨⟨fun q' h1 h2 => ?_, fun q' h1 h2 y y1 y2 y3 => ?_, fun q' h1 h2 => ?_, fun q' h0 h1 h2 => ?_⟩, fun h9 => by omega, fun _ => ⟨?_, hlo, hat⟩⟩
        · show ∃ u' : Nat, setF r.2.up q (r.2.up u) q' = u' ∧ u' < q' ∧ q' < fin u'
          unfold setF
          by_cases eq : q' = q
          · subst eq
            rw [if_pos rfl]
            exact ⟨u2, hv, by omega, by omega⟩
          · rw [if_neg eq]
            exact j1.a q' h1 h2
        · have y1 : setF r.2.up q (r.2.up u) q' < (y : Int) := y1
          show i < y ∧ setF r.2.low q (min (s.low q) r.1) q' ≤ sem y
          unfold setF at y1 ⊢
          by_cases eq : q' = q
          · subst eq
            rw [if_pos rfl] at y1 ⊢
            have hiy : i < y := by
              by_cases hyu : u < y
              · omega
              · exact (j1.b u hui (by omega) y y1 (by omega) (by omega)).1
            exact ⟨hiy, hlo y hiy y2 y3⟩
          · rw [if_neg eq] at y1 ⊢
            exact j1.b q' h1 h2 y y1 y2 y3
        · show ∃ y : Nat, setF r.2.up q (r.2.up u) q' < (y : Int) ∧ y ≤ q' ∧ q' < fin y ∧ setF r.2.low q (min (s.low q) r.1) q' = sem y
          unfold setF
          by_cases eq : q' = q
          · subst eq
            rw [if_pos rfl, if_pos rfl]
            obtain ⟨y, y1, y2, y3, y4⟩ := hat
            exact ⟨y, by omega, y2, y3, y4⟩
          · rw [if_neg eq, if_neg eq]
            exact j1.c q' h1 h2
        · show setF r.2.up q (r.2.up u) q' = par q'
          unfold setF
          rw [if_neg (by omega)]
          exact j1.d q' h0 h1 h2
        · show setF r.2.up q (r.2.up u) q ≤ (i : Int)
          unfold setF
          rw [if_pos rfl]
          exact k1
      · have e : least (f + 1) q i s = (s.low q, s) := by
          rw [least_succ, if_neg (by omega), Int.toNat_natCast, hu, if_neg (by omega)]
        rw [e]
        refine ⟨hJ, fun h9 => by omega, fun _ => ⟨by show s.up q ≤ _; omega, fun y y1 y2 y3 => (hJ.b q hiq hq y (by omega) y2 y3).2, ?_⟩⟩
        obtain ⟨y, y1, y2, y3, y4⟩ := hJ.c q hiq hq
        exact ⟨y, (hJ.b q hiq hq y y1 y2 y3).1, y2, y3, y4⟩
/-- of one number ahead -/
def askV (fin : Nat → Nat) (sem : Nat → Int) (i v : Nat) (x : Int) : Prop := (v ≤ i ∧ x = v) ∨ ∃ y : Nat, i < y ∧ y ≤ v ∧ v < fin y ∧ x = sem y
theorem semiIn_ok (h : Dm.Tr n E par fin) {sem : Nat → Int} {w : Wk} {i : Nat} (hn : n = w.order.length) : ∀ (l : List Int) (m : Int) (s : Fo), JJ n par fin sem i s → (∀ p, p ∈ l → ∃ v : Nat, v < n ∧ w.rank p.toNat = v) → JJ n par fin sem i (semiIn w i l m s).2 ∧ (semiIn w i l m s).1 ≤ m ∧ (∀ p, p ∈ l → ∀ v : Nat, w.rank p.toNat = v → ∀ x, askV fin sem i v x → (semiIn w i l m s).1 ≤ x) ∧ ((semiIn w i l m s).1 = m ∨ ∃ p, p ∈ l ∧ ∃ v : Nat, w.rank p.toNat = v ∧ askV fin sem i v (semiIn w i l m s).1)
  | [], m, s, hJ, _ => by
    rw [semiIn]
    exact ⟨hJ, Int.le_refl _, fun p hp => by simp at hp, .inl rfl⟩
  | p :: l, m, s, hJ, hl => by
    rw [semiIn]
    obtain ⟨v, hv, hr⟩ := hl p (by simp)
    obtain ⟨j1, j2, j3⟩ := least_ok h (i + w.order.length + 1) v s hJ hv (by omega)
    rw [hr]
    obtain ⟨r, hre⟩ : ∃ r, r = least (i + w.order.length + 1) v i s := ⟨_, rfl⟩
    rw [← hre] at j1 j2 j3 ⊢
    obtain ⟨k1, k2, k3, k4⟩ := semiIn_ok h (i := i) hn l (min m r.1) r.2 j1 (fun p hp => hl p (by simp [hp]))
    refine ⟨k1, by omega, fun p' hp' v' hv' x hx => ?_, ?_⟩
    · rcases List.mem_cons.1 hp' with rfl | hp'
      · have : v' = v := by omega
        subst this
        have hrx : r.1 ≤ x := by
          rcases hx with ⟨h1, rfl⟩ | ⟨y, h1, h2, h3, rfl⟩
          · rw [j2 h1]; exact Int.le_refl _
          · exact (j3 (by omega)).2.1 y h1 h2 h3
        exact Int.le_trans k2 (Int.le_trans (Int.min_le_right _ _) hrx)
      · exact k3 p' hp' v' hv' x hx
    · rcases k4 with k4 | ⟨p', hp', v', hv', k4⟩
      · rw [k4]
        by_cases hm : m ≤ r.1
        · exact .inl (by omega)
        · refine .inr ⟨p, by simp, v, hr, ?_⟩
          have e : min m r.1 = r.1 := by omega
          rw [e]
          by_cases hvi : v ≤ i
          · exact .inl ⟨hvi, j2 hvi⟩
          · obtain ⟨_, _, y, y1, y2, y3, y4⟩ := j3 (by omega)
            exact .inr ⟨y, y1, y2, y3, y4⟩
      · exact .inr ⟨p', by simp [hp'], v', hv', k4⟩
theorem semiAll_ok (h : Dm.Tr n E par fin) {bs : List Bl} {w : Wk} (hn : n = w.order.length) (hp : ∀ i, 0 < i → i < n → ∀ p, p ∈ (bs.getD (w.order.getD i 0).toNat bl0).preds → ∃ v : Nat, v < n ∧ w.rank p.toNat = v ∧ E v i)
    (he : ∀ i v, 0 < i → i < n → E v i → ∃ p, p ∈ (bs.getD (w.order.getD i 0).toNat bl0).preds ∧ w.rank p.toNat = v) :
    ∀ (i : Nat) (m : Nat → Int) (s : Fo), i < n → JJ n par fin m i s → (∀ q, i < q → q < n → 0 ≤ m q ∧ Dm.Semi E q (m q).toNat) → ∀ q, 0 < q → q < n → 0 ≤ semiAll bs w i m s q ∧ Dm.Semi E q (semiAll bs w i m s q).toNat
  | 0, m, s, _, _, hm => fun q h0 hq => by rw [semiAll]; exact hm q h0 hq
  | i + 1, m, s, hi, hJ, hm => by
    rw [semiAll]
    obtain ⟨k1, k2, k3, k4⟩ := semiIn_ok h (sem := m) (i := i + 1) hn (bs.getD (w.order.getD (i + 1) 0).toNat bl0).preds ((i + 1 : Nat) : Int) s hJ (fun p hp' => by
      obtain ⟨v, hv, hr, _⟩ := hp (i + 1) (by omega) hi p hp'
      exact ⟨v, hv, hr⟩)
    obtain ⟨r, hr⟩ : ∃ r, r = semiIn w (i + 1) (bs.getD (w.order.getD (i + 1) 0).toNat bl0).preds ((i + 1 : Nat) : Int) s := ⟨_, rfl⟩
    rw [← hr] at k1 k2 k3 k4 ⊢
    have hpar := h.p1 (i + 1) (by omega) hi
    obtain ⟨pp, hpp, hpr⟩ := he (i + 1) _ (by omega) hi (h.e2 (i + 1) (by omega) hi)
    have hle := k3 pp hpp _ hpr _ (.inl ⟨by omega, rfl⟩)
    have hask : Dm.Ask E fin (fun q => (m q).toNat) (i + 1) r.1.toNat ∧ 0 ≤ r.1 := by
      rcases k4 with k4 | ⟨p, hp', v, hv, k4⟩
      · omega
      · obtain ⟨v', hv', hr', hE⟩ := hp (i + 1) (by omega) hi p hp'
        have : v' = v := by omega
        subst this
        rcases k4 with ⟨h1, h2⟩ | ⟨y, h1, h2, h3, h4⟩
        · exact ⟨.inl ⟨by rw [h2, Int.toNat_natCast]; exact hE, by omega⟩, by omega⟩
        · exact ⟨.inr ⟨y, v', hE, h1, h2, h3, by rw [h4]⟩, by rw [h4]; exact (hm y h1 (by omega)).1⟩
    have hsem : Dm.Semi E (i + 1) r.1.toNat := h.semi (sem := fun q => (m q).toNat) (by omega) hi (fun q h1 h2 => (hm q h1 h2).2) hask.1 (fun u hu => by
      rcases hu with ⟨h1, h2⟩ | ⟨q, p, h1, h2, h3, h4, rfl⟩
      · obtain ⟨p, hp', hr'⟩ := he (i + 1) u (by omega) hi h1
        have := k3 p hp' u hr' _ (.inl ⟨h2, rfl⟩)
        omega
      · obtain ⟨p', hp', hr'⟩ := he (i + 1) p (by omega) hi h1
        have := k3 p' hp' p hr' _ (.inr ⟨q, h2, h3, h4, rfl⟩)
        have := (hm q h2 (by have := (h.e0 _ _ h1).1; omega)).1
        show r.1.toNat ≤ (m q).toNat
        omega)
    refine semiAll_ok h hn hp he i _ _ (by omega) ?_ (fun q h1 h2 => ?_)
    · have hset : ∀ q, i + 1 < q → setF m (i + 1) r.1 q = m q := fun q hq => by unfold setF; rw [if_neg (by omega)]
      have hse : setF m (i + 1) r.1 (i + 1) = r.1 := by unfold setF; simp
      have hlw : ∀ q, i + 1 < q → setF r.2.low (i + 1) r.1 q = r.2.low q := fun q hq => by unfold setF; rw [if_neg (by omega)]
      have hle' : setF r.2.low (i + 1) r.1 (i + 1) = r.1 := by unfold setF; simp
      refine ⟨fun q h1 h2 => ?_, fun q h1 h2 y y1 y2 y3 => ?_, fun q h1 h2 => ?_, fun q h0 h1 h2 => k1.d q h0 (by omega) h2⟩
      · by_cases e : q = i + 1
        · subst e
          exact ⟨par (i + 1), k1.d _ (by omega) (Nat.le_refl _) hi, hpar.1, hpar.2⟩
        · exact k1.a q (by omega) h2
      · have y1 : r.2.up q < (y : Int) := y1
        show i < y ∧ setF r.2.low (i + 1) r.1 q ≤ setF m (i + 1) r.1 y
        by_cases e : q = i + 1
        · subst e
          rw [k1.d _ (by omega) (Nat.le_refl _) hi] at y1
          have hy : y = i + 1 := by
            refine Decidable.byContradiction fun hc => ?_
            have := h.p2 (i + 1) y (by omega) hi (by omega) y3
            omega
          subst hy
          rw [hle', hse]
          exact ⟨by omega, Int.le_refl _⟩
        · have h3 := k1.b q (by omega) h2 y y1 y2 y3
          rw [hlw q (by omega), hset y h3.1]
          exact ⟨by omega, h3.2⟩
      · show ∃ y : Nat, r.2.up q < (y : Int) ∧ y ≤ q ∧ q < fin y ∧ setF r.2.low (i + 1) r.1 q = setF m (i + 1) r.1 y
        by_cases e : q = i + 1
        · subst e
          refine ⟨i + 1, ?_, Nat.le_refl _, (h.f1 _ hi).1, by rw [hle', hse]⟩
          rw [k1.d _ (by omega) (Nat.le_refl _) hi]
          omega
        · obtain ⟨y, y1, y2, y3, y4⟩ := k1.c q (by omega) h2
          have h3 := (k1.b q (by omega) h2 y y1 y2 y3).1
          exact ⟨y, y1, y2, y3, by rw [hlw q (by omega), hset y h3, y4]⟩
    · by_cases e : q = i + 1
      · subst e
        have : setF m (i + 1) r.1 (i + 1) = r.1 := by unfold setF; simp
        rw [this]
        exact ⟨hask.2, hsem⟩
      · have : setF m (i + 1) r.1 q = m q := by unfold setF; rw [if_neg e]
        rw [this]
        exact hm q (by omega) h2
end
/- the climb -/
theorem climb_dom {D : Nat → Nat} {A : Nat → Int} {s : Int} (hs : 0 ≤ s) : ∀ (f a : Nat), (∀ j, 0 < j → j ≤ a → A j = D j ∧ D j < j) → a < f → ∃ y : Nat, climb A s f a = y ∧ y ≤ a ∧ (y : Int) ≤ s ∧ Dm.Up D y a ∧ ∀ x, Dm.Up D x a → (x : Int) ≤ s → Dm.Up D x y
  | 0, a, _, h => by omega
  | f + 1, a, hA, hf => by
    rw [climb]
    split
    · rename_i h1
      have h0 : 0 < a := by omega
      obtain ⟨e1, e2⟩ := hA a h0 (Nat.le_refl _)
      rw [Int.toNat_natCast, e1]
      obtain ⟨y, y1, y2, y3, y4, y5⟩ := climb_dom hs f (D a) (fun j j0 j1 => hA j j0 (by omega)) (by omega)
      refine ⟨y, y1, by omega, y3, .step h0 y4, fun x hx hxs => y5 x ?_ hxs⟩
      cases hx with
      | refl => omega
      | step _ hx => exact hx
    · rename_i h1
      exact ⟨a, rfl, Nat.le_refl _, by omega, .refl, fun x hx _ => hx⟩
theorem Up_dom {D D' : Nat → Nat} {x : Nat} : ∀ k, (∀ j, 0 < j → j ≤ k → D j = D' j ∧ D j < j) → Dm.Up D x k → Dm.Up D' x k := fun k hD hu => by
  induction hu with
  | refl => exact .refl
  | step h0 hu ih =>
    rename_i k
    have h1 := hD k h0 (Nat.le_refl _)
    refine .step h0 ?_
    rw [← h1.1]
    exact ih (fun j j0 j1 => hD j j0 (by omega))
theorem aboveAll_dom {semi : Nat → Int} {P : Nat → Nat} : ∀ (k i : Nat) (A : Nat → Int), 0 < i → (∀ q, i ≤ q → q < i + k → A q = P q ∧ P q < q ∧ 0 ≤ semi q) → (∀ j, 0 < j → j < i → 0 ≤ A j ∧ (A j).toNat < j) →
    (∀ j, j < i → aboveAll semi k i A j = A j) ∧ (∀ j, 0 < j → j < i + k → 0 ≤ aboveAll semi k i A j ∧ (aboveAll semi k i A j).toNat < j) ∧ ∀ q, i ≤ q → q < i + k → (aboveAll semi k i A q ≤ semi q ∧ Dm.Up (fun j => (aboveAll semi k i A j).toNat) (aboveAll semi k i A q).toNat (P q) ∧ ∀ x : Nat, Dm.Up (fun j => (aboveAll semi k i A j).toNat) x (P q) → (x : Int) ≤ semi q → Dm.Up (fun j => (aboveAll semi k i A j).toNat) x (aboveAll semi k i A q).toNat)
  | 0, i, A, h0, _, hA => by
    rw [aboveAll]
    exact ⟨fun j _ => rfl, fun j j0 j1 => hA j j0 (by omega), fun q q1 q2 => by omega⟩
  | k + 1, i, A, h0, hq, hA => by
    rw [aboveAll]
    obtain ⟨e1, e2, e3⟩ := hq i (Nat.le_refl _) (by omega)
    obtain ⟨y, y1, y2, y3, y4, y5⟩ := climb_dom (D := fun j => (A j).toNat) (A := A) e3 (i + 1) (P i) (fun j j0 j1 => by
      have := hA j j0 (by omega)
      exact ⟨by show A j = ((A j).toNat : Int); omega, this.2⟩) (by omega)
    rw [e1, y1]
    obtain ⟨r1, r2, r3⟩ := aboveAll_dom (semi := semi) (P := P) k (i + 1) (setF A i y) (by omega) (fun q q1 q2 => by
      have : setF A i (y : Int) q = A q := by unfold setF; rw [if_neg (by omega)]
      rw [this]
      exact hq q (by omega) (by omega)) (fun j j0 j1 => by
      unfold setF
      by_cases e : j = i
      · subst e; rw [if_pos rfl]; omega
      · rw [if_neg e]; exact hA j j0 (by omega))
    have hlow : ∀ j, j < i → aboveAll semi k (i + 1) (setF A i y) j = A j := fun j hj => by
      rw [r1 j (by omega)]
      unfold setF
      rw [if_neg (by omega)]
    have hat : aboveAll semi k (i + 1) (setF A i y) i = y := by
      rw [r1 i (by omega)]
      unfold setF
      rw [if_pos rfl]
    have hc1 : ∀ z, z < i → ∀ x, Dm.Up (fun j => (A j).toNat) x z → Dm.Up (fun j => (aboveAll semi k (i + 1) (setF A i y) j).toNat) x z := fun z hz x hx => Up_dom z (fun j j0 j1 => ⟨by show (A j).toNat = _; rw [hlow j (by omega)], (hA j j0 (by omega)).2⟩) hx
    have hc2 : ∀ z, z < i → ∀ x, Dm.Up (fun j => (aboveAll semi k (i + 1) (setF A i y) j).toNat) x z → Dm.Up (fun j => (A j).toNat) x z := fun z hz x hx => Up_dom z (fun j j0 j1 => ⟨by show (aboveAll semi k (i + 1) (setF A i y) j).toNat = _; rw [hlow j (by omega)], by show (aboveAll semi k (i + 1) (setF A i y) j).toNat < j; rw [hlow j (by omega)]; exact (hA j j0 (by omega)).2⟩) hx
    refine ⟨hlow, fun j j0 j1 => r2 j j0 (by omega), fun q q1 q2 => ?_⟩
    by_cases e : q = i
    · subst e
      rw [hat, Int.toNat_natCast]
      exact ⟨y3, hc1 _ e2 _ y4, fun x hx hxs => hc1 _ (by omega) _ (y5 x (hc2 _ e2 _ hx) hxs)⟩
    · exact r3 q (by omega) (by omega)
/-- what comes ahead of a block -/
theorem preds_comes {bs : List Bl} (hf : flowB bs = true) {b : Nat} (hb : b < bs.length) {x : Int} : x ∈ (bs.getD b bl0).preds ↔ ∃ c : Nat, c < bs.length ∧ x = c ∧ (b : Int) ∈ (bs.getD c bl0).succs := by
  unfold flowB at hf
  simp only [Bool.and_eq_true, List.all_eq_true, List.mem_range] at hf
  have h1 := hf.1.1.2 b hb
  unfold isSame at h1
  rw [Bool.and_eq_true, beq_iff_eq, beq_iff_eq] at h1
  have h2 : x ∈ (bs.getD b bl0).preds ↔ x ∈ comes bs b := by
    rw [h1.2]
    exact (List.mem_mergeSort).symm
  rw [h2]
  unfold comes
  simp only [List.mem_flatMap, List.mem_range, List.mem_map, List.mem_filter, beq_iff_eq]
  constructor
  · rintro ⟨c, hc, z, ⟨hz, rfl⟩, rfl⟩
    exact ⟨c, hc, rfl, hz⟩
  · rintro ⟨c, hc, rfl, hz⟩
    exact ⟨c, hc, _, ⟨hz, rfl⟩, rfl⟩
/-- the row above -/
def abv (bs : List Bl) : Nat → Int := aboveAll (semis bs (walk bs)) ((walk bs).order.length - 1) 1 (fun i => (walk bs).parent.getD i 0)
/-- **immediate dominators: what dominates stands in the row above** -/
theorem abv_ok {bs : List Bl} (hw : waysB bs = true) (hf : flowB bs = true) : (∀ j, 0 < j → j < (walk bs).order.length → 0 ≤ abv bs j ∧ (abv bs j).toNat < j) ∧ ∀ k, k < (walk bs).order.length → ∀ x, Dm.Up (fun j => (abv bs j).toNat) x k ↔ Dm.Dom (edge bs (walk bs)) x k := by
  obtain ⟨h0, h4, hwa⟩ := waysB_iff hw
  have hl := leads hw
  have ht := walk_tr hl h0
  obtain ⟨hi, hd, he⟩ := walk_fd hl h0
  obtain ⟨f0, f1, f2⟩ := walk_first hl h0
  have hall : ∀ b : Nat, b < bs.length → (bs.getD b bl0).kind ≠ 0 → (walk bs).rank b ≠ -1 := fun b hb hk => by
    unfold flowB at hf
    simp only [Bool.and_eq_true] at hf
    have h8 := List.all_eq_true.1 hf.2 b (List.mem_range.2 hb)
    rw [Bool.or_eq_true, beq_iff_eq, bne_iff_ne] at h8
    exact h8.resolve_left hk
  obtain ⟨w, hwe⟩ : ∃ w, w = walk bs := ⟨_, rfl⟩
  unfold abv semis
  rw [← hwe] at ht hi hd he f0 f1 f2 hall ⊢
  have hp : ∀ i, 0 < i → i < w.order.length → ∀ p, p ∈ (bs.getD (w.order.getD i 0).toNat bl0).preds → ∃ v : Nat, v < w.order.length ∧ w.rank p.toNat = v ∧ edge bs w v i := fun i i0 i1 p hp => by
    obtain ⟨q, hq, h1, h2⟩ := hi.ord i i1
    rw [h1, Int.toNat_natCast] at hp
    obtain ⟨p0, p1, p2⟩ := (wayB_iff (hwa q hq)).2.2.1 p hp
    obtain ⟨c, hc, rfl, hs⟩ := (preds_comes hf hq).1 hp
    rw [Int.toNat_natCast] at p2 ⊢
    rcases hi.rk c hc with h3 | ⟨v, hv, h3, h5⟩
    · exact absurd h3 (hall c hc p2)
    · exact ⟨v, hv, h3, hv, i1, by rw [h5, Int.toNat_natCast, h1]; exact hs⟩
  have hE : ∀ i v, 0 < i → i < w.order.length → edge bs w v i → ∃ p, p ∈ (bs.getD (w.order.getD i 0).toNat bl0).preds ∧ w.rank p.toNat = v := fun i v i0 i1 hE => by
    obtain ⟨q, hq, h1, h2⟩ := hi.ord i i1
    obtain ⟨c, hc, h3, h5⟩ := hi.ord v hE.1
    have h6 := hE.2.2
    rw [h1, h3, Int.toNat_natCast] at h6
    refine ⟨c, ?_, by rw [Int.toNat_natCast, h5]⟩
    rw [h1, Int.toNat_natCast]
    exact (preds_comes hf hq).2 ⟨c, hc, rfl, h6⟩
  have hsem := semiAll_ok ht (bs := bs) (w := w) rfl hp hE (w.order.length - 1) (fun _ => 0) ⟨fun i => w.parent.getD i 0, fun _ => 0⟩ (by omega) ⟨fun q h1 h2 => by omega, fun q h1 h2 => by omega, fun q h1 h2 => by omega, fun q q0 h1 h2 => by
    show w.parent.getD q 0 = (parN w q : Int)
    have := (hi.par q h2).2.2 q0
    unfold parN
    omega⟩ (fun q h1 h2 => by omega)
  have hab := aboveAll_dom (semi := semiAll bs w (w.order.length - 1) (fun _ => 0) ⟨fun i => w.parent.getD i 0, fun _ => 0⟩) (P := parN w) (w.order.length - 1) 1 (fun i => w.parent.getD i 0) (by omega) (fun q q1 q2 => by
    have h1 := hi.par q (by omega)
    have h2 := h1.2.2 (by omega)
    exact ⟨by show w.parent.getD q 0 = (parN w q : Int); unfold parN; omega, by unfold parN; omega, (hsem q (by omega) (by omega)).1⟩) (fun j j0 j1 => by omega)
  obtain ⟨_, a2, a3⟩ := hab
  refine ⟨fun j j0 j1 => a2 j j0 (by omega), ?_⟩
  refine ht.doms (sem := fun q => (semiAll bs w (w.order.length - 1) (fun _ => 0) ⟨fun i => w.parent.getD i 0, fun _ => 0⟩ q).toNat) (fun k k0 k1 => (hsem k k0 k1).2) (fun k k0 k1 => ?_)
  obtain ⟨b1, b2, b3⟩ := a3 k (by omega) (by omega)
  have hs0 := (hsem k k0 k1).1
  refine ⟨b2, ?_, fun x hx hxs => b3 x hx ?_⟩
  · have := (a2 k k0 (by omega)).1
    show (aboveAll _ _ _ _ k).toNat ≤ (semiAll _ _ _ _ _ k).toNat
    omega
  · have hxs : x ≤ (semiAll bs w (w.order.length - 1) (fun _ => 0) ⟨fun i => w.parent.getD i 0, fun _ => 0⟩ k).toNat := hxs
    omega
end Sa
end Go.Proofs.Ytbpdggdpgohilaa
