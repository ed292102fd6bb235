/- Immediate dominators, plain: what a way up by them meets. -/
import Derived.Test.YtbpdggdpgohilaaFlDm
import Derived.Test.YtbpdggdpgohilaaG16
import Derived.Test.YtbpdggdpgohilaaFlRx
namespace Go.Proofs.Ytbpdggdpgohilaa
open Go.RowKit
set_option linter.unusedVariables false
namespace Sa
theorem order_blk {bs : List Bl} (hw : waysB bs = true) (hf : flowB bs = true) : Hn bs (walk bs).order := by
  unfold flowB at hf
  simp only [Bool.and_eq_true, bne_iff_ne] at hf
  exact visit_blk (sucB hw) bs.length 0 (-1) ⟨fun _ => -1, [], []⟩ hf.1.1.1.1 (fun x hx => by simp at hx)
theorem blk_pos {bs : List Bl} (hw : waysB bs = true) (hf : flowB bs = true) {b : Nat} (hb : b < bs.length) : (bs.getD b bl0).kind ≠ 0 ↔ ∃ j, j < (walk bs).order.length ∧ oN (walk bs) j = b := by
  obtain ⟨h0, h4, _⟩ := waysB_iff hw
  have hi := walk_ok (leads hw) h0
  constructor
  · intro hk
    unfold flowB at hf
    simp only [Bool.and_eq_true] at hf
    have h8 := List.all_eq_true.1 hf.2 b (List.mem_range.2 hb)
    rw [Bool.or_eq_true, beq_iff_eq, bne_iff_ne] at h8
    rcases hi.rk b hb with h9 | ⟨j, hj, _, h9⟩
    · exact absurd h9 (h8.resolve_left hk)
    · exact ⟨j, hj, by unfold oN; rw [h9, Int.toNat_natCast]⟩
  · rintro ⟨j, hj, rfl⟩
    obtain ⟨h1, h2⟩ := oN_lt hi hj
    have := order_blk hw hf ((walk bs).order.getD j 0) (by
      rw [List.getD_eq_getElem?_getD, List.getElem?_eq_getElem hj, Option.getD_some]
      exact List.getElem_mem hj)
    rw [h2, Int.toNat_natCast] at this
    exact this
theorem dmB_at {bs : List Bl} (hw : waysB bs = true) (hf : flowB bs = true) {j : Nat} (h1 : 0 < j) (hj : j < (walk bs).order.length) : dmB bs (oN (walk bs) j) = (oN (walk bs) (abv bs j).toNat : Int) := by
  obtain ⟨h0, h4, _⟩ := waysB_iff hw
  have hi := walk_ok (leads hw) h0
  have ha := (abv_ok hw hf).1 j h1 hj
  unfold dmB
  rw [tops_at hi (by omega) (by omega) (by omega)]
  exact (oN_lt hi (by omega)).2
theorem dmB_no {bs : List Bl} (hw : waysB bs = true) (hf : flowB bs = true) {b : Nat} (h : ∀ j, 0 < j → j < (walk bs).order.length → oN (walk bs) j ≠ b) : dmB bs b = -1 := by
  unfold dmB
  rw [tops_other]
  intro j h1 h2
  exact h j (by omega) (by omega)
/-- ways between places, ways between blocks -/
theorem wy_blocks {bs : List Bl} (hw : waysB bs = true) (hf : flowB bs = true) {pb : Nat} (hpb : pb < (walk bs).order.length) {p : Nat} (hp : p < (walk bs).order.length) : Dm.Wy (edge bs (walk bs)) (fun y => y ≠ pb) 0 p ↔ Dm.Wy (EB bs) (fun y => y ≠ oN (walk bs) pb) 0 (oN (walk bs) p) := by
  obtain ⟨h0, h4, _⟩ := waysB_iff hw
  obtain ⟨hi, hd, he⟩ := walk_fd (leads hw) h0
  obtain ⟨f0, f1, _⟩ := walk_first (leads hw) h0
  have hz : oN (walk bs) 0 = 0 := by unfold oN; rw [f1]; rfl
  constructor
  · intro h
    have h9 : ∀ u v, Dm.Wy (edge bs (walk bs)) (fun y => y ≠ pb) u v → u < (walk bs).order.length → v < (walk bs).order.length ∧ Dm.Wy (EB bs) (fun y => y ≠ oN (walk bs) pb) (oN (walk bs) u) (oN (walk bs) v) := by
      intro u v h
      induction h with
      | refl hx => intro hu; exact ⟨hu, .refl (fun e => hx (oN_inj hi hu hpb e))⟩
      | step h hE hx ih =>
        rename_i v x
        intro hu
        obtain ⟨hv, h2⟩ := ih hu
        obtain ⟨e1, e2, e3⟩ := hE
        obtain ⟨a1, a2⟩ := oN_lt hi e1
        obtain ⟨a3, a4⟩ := oN_lt hi e2
        refine ⟨e2, .step h2 ⟨a1, a3, ?_⟩ (fun e => hx (oN_inj hi e2 hpb e))⟩
        rw [← a4]
        exact e3
    have := (h9 0 p h f0).2
    rw [hz] at this
    exact this
  · intro h
    have h9 : ∀ x y, Dm.Wy (EB bs) (fun y => y ≠ oN (walk bs) pb) x y → x = 0 → ∃ v, v < (walk bs).order.length ∧ y = oN (walk bs) v ∧ Dm.Wy (edge bs (walk bs)) (fun y => y ≠ pb) 0 v := by
      intro x y h
      induction h with
      | refl hx => rintro rfl; exact ⟨0, f0, hz.symm, .refl (fun e => hx (by rw [← e, hz]))⟩
      | step h hE hx ih =>
        rename_i y z
        intro e
        obtain ⟨v, hv, rfl, hwv⟩ := ih e
        obtain ⟨e1, e2, e3⟩ := hE
        have h7 := (he v hv (z : Int) e3).1
        rw [Int.toNat_natCast] at h7
        rcases hi.rk z e2 with h8 | ⟨j, hj, _, h8⟩
        · exact absurd h8 h7
        · have hzj : z = oN (walk bs) j := by unfold oN; rw [h8, Int.toNat_natCast]
          refine ⟨j, hj, hzj, .step hwv ⟨hv, hj, by rw [h8]; exact e3⟩ (fun e => hx (by rw [hzj, e]))⟩
    obtain ⟨v, hv, e, hwv⟩ := h9 0 _ h rfl
    rw [oN_inj hi hp hv e]
    exact hwv
theorem up_lin {D : Nat → Nat} {n : Nat} (hD : ∀ k, 0 < k → k < n → D k < k) {z q p : Nat} (hp : p < n) (h1 : Dm.Up D z p) (h2 : Dm.Up D q p) (hzq : z ≤ q) : Dm.Up D z q := by
  induction h2 with
  | refl => exact h1
  | step h0 h2 ih =>
    rename_i p
    have := hD p h0 hp
    refine ih (by omega) ?_
    cases h1 with
    | refl =>
      have := h2.le (n := n) hD (by omega)
      omega
    | step _ h1 => exact h1
/-- the way up from block k: at x, what has been met, how many steps -/
def ChI (bs : List Bl) (b k : Nat) (x : Int) (ab : Bool) (cnt : Nat) : Prop :=
  ((bs.getD k bl0).kind = 0 ∧ (x = k ∧ cnt = 0 ∨ x = -1 ∧ cnt = 1)) ∨
  ∃ p, p < (walk bs).order.length ∧ oN (walk bs) p = k ∧
    ((∃ q, x = (oN (walk bs) q : Int) ∧ Dm.Up (fun j => (abv bs j).toNat) q p ∧ cnt + q ≤ p ∧ (ab = true ↔ ∃ z, Dm.Up (fun j => (abv bs j).toNat) z p ∧ q < z ∧ oN (walk bs) z = b)) ∨
     (x = -1 ∧ cnt ≤ p + 1 ∧ (ab = true ↔ ∃ z, Dm.Up (fun j => (abv bs j).toNat) z p ∧ oN (walk bs) z = b)))
theorem ChI.start {bs : List Bl} (hw : waysB bs = true) (hf : flowB bs = true) {b k : Nat} (hk : k < bs.length) : ChI bs b k k false 0 := by
  by_cases hz : (bs.getD k bl0).kind = 0
  · exact .inl ⟨hz, .inl ⟨rfl, rfl⟩⟩
  · obtain ⟨p, hp, e⟩ := (blk_pos hw hf hk).1 hz
    refine .inr ⟨p, hp, e, .inl ⟨p, by rw [e], .refl, by omega, ?_⟩⟩
    constructor
    · intro h; cases h
    · rintro ⟨z, hz, hlt, _⟩
      have := hz.le (n := (walk bs).order.length) (fun j j0 j1 => ((abv_ok hw hf).1 j j0 j1).2) hp
      omega
theorem ChI.step {bs : List Bl} (hw : waysB bs = true) (hf : flowB bs = true) {b k : Nat} (hk : k < bs.length) {x : Int} {ab : Bool} {cnt : Nat} (h : ChI bs b k x ab cnt) (hx : 0 ≤ x) : ∃ y : Nat, x = y ∧ y < bs.length ∧ cnt < bs.length ∧ ChI bs b k (dmB bs y) (ab || decide (y = b)) (cnt + 1) := by
  obtain ⟨h0, h4, _⟩ := waysB_iff hw
  have hi := walk_ok (leads hw) h0
  have hD : ∀ j, 0 < j → j < (walk bs).order.length → (abv bs j).toNat < j := fun j j0 j1 => ((abv_ok hw hf).1 j j0 j1).2
  rcases h with ⟨hz, ⟨rfl, rfl⟩ | ⟨rfl, _⟩⟩ | ⟨p, hp, e, ⟨q, rfl, hu, hc, ha⟩ | ⟨rfl, _⟩⟩
  · refine ⟨k, rfl, hk, by omega, .inl ⟨hz, .inr ⟨dmB_no hw hf fun j j0 j1 ej => ?_, rfl⟩⟩⟩
    exact absurd hz ((blk_pos hw hf hk).2 ⟨j, j1, ej⟩)
  · omega
  · have hqp := hu.le hD hp
    obtain ⟨a1, a2⟩ := oN_lt hi (show q < _ by omega)
    have hle := hi.le
    refine ⟨oN (walk bs) q, rfl, a1, by omega, .inr ⟨p, hp, e, ?_⟩⟩
    have hmem : ∀ z, Dm.Up (fun j => (abv bs j).toNat) z p → (q < z ∨ z = q ∨ (0 < q ∧ z ≤ (abv bs q).toNat)) := fun z hz => by
      rcases Nat.lt_trichotomy z q with h3 | h3 | h3
      · have h5 := up_lin hD hp hz hu (by omega)
        cases h5 with
        | refl => exact .inr (.inl rfl)
        | step h0 h5 => exact .inr (.inr ⟨h0, h5.le hD (by have := hD q h0 (by omega); show (abv bs q).toNat < _; omega)⟩)
      · exact .inr (.inl h3)
      · exact .inl h3
    by_cases hq0 : q = 0
    · subst hq0
      have hdm : dmB bs (oN (walk bs) 0) = -1 := dmB_no hw hf fun j j0 j1 ej => by
        have := oN_inj hi j1 (show 0 < _ by omega) ej
        omega
      refine .inr ⟨hdm, by omega, ?_⟩
      rw [Bool.or_eq_true, decide_eq_true_eq, ha]
      constructor
      · rintro (⟨z, h1, h2, h3⟩ | h1)
        · exact ⟨z, h1, h3⟩
        · exact ⟨0, hu, h1⟩
      · rintro ⟨z, h1, h2⟩
        rcases hmem z h1 with h3 | h3 | h3
        · exact .inl ⟨z, h1, h3, h2⟩
        · subst h3; exact .inr h2
        · omega
    · have hq1 : 0 < q := by omega
      have hlt := hD q hq1 (by omega)
      refine .inl ⟨(abv bs q).toNat, dmB_at hw hf hq1 (by omega), .trans (.step hq1 .refl) hu, by omega, ?_⟩
      rw [Bool.or_eq_true, decide_eq_true_eq, ha]
      constructor
      · rintro (⟨z, h1, h2, h3⟩ | h1)
        · exact ⟨z, h1, by omega, h3⟩
        · exact ⟨q, hu, hlt, h1⟩
      · rintro ⟨z, h1, h2, h3⟩
        rcases hmem z h1 with h5 | h5 | h5
        · exact .inl ⟨z, h1, h5, h3⟩
        · subst h5; exact .inr h3
        · omega
  · omega
theorem ChI.done {bs : List Bl} (hw : waysB bs = true) (hf : flowB bs = true) {b k : Nat} (hb : b < bs.length) (hbk : (bs.getD b bl0).kind ≠ 0) (hk : k < bs.length) {x : Int} {ab : Bool} {cnt : Nat} (h : ChI bs b k x ab cnt) (hx : ¬ 0 ≤ x) : cnt ≤ bs.length ∧ ((bs.getD k bl0).kind ≠ 0 → (ab = true ↔ ¬ Dm.Wy (EB bs) (fun y => y ≠ b) 0 k)) := by
  obtain ⟨h0, h4, _⟩ := waysB_iff hw
  have hi := walk_ok (leads hw) h0
  have hle := hi.le
  rcases h with ⟨hz, ⟨rfl, rfl⟩ | ⟨rfl, rfl⟩⟩ | ⟨p, hp, e, ⟨q, rfl, hu, hc, ha⟩ | ⟨rfl, hc, ha⟩⟩
  · omega
  · exact ⟨by omega, fun h => absurd hz h⟩
  · omega
  · refine ⟨by omega, fun _ => ?_⟩
    obtain ⟨pb, hpb, rfl⟩ := (blk_pos hw hf hb).1 hbk
    rw [ha, ← e, ← wy_blocks hw hf hpb hp]
    have h9 := (abv_ok hw hf).2 p hp pb
    have h8 : Dm.Dom (edge bs (walk bs)) pb p ↔ ¬ Dm.Wy (edge bs (walk bs)) (fun y => y ≠ pb) 0 p := Iff.rfl
    rw [← h8, ← h9]
    constructor
    · rintro ⟨z, h1, h2⟩
      have hD : ∀ j, 0 < j → j < (walk bs).order.length → (abv bs j).toNat < j := fun j j0 j1 => ((abv_ok hw hf).1 j j0 j1).2
      have := h1.le hD hp
      rw [← oN_inj hi (by omega) hpb h2]
      exact h1
    · intro h1
      exact ⟨pb, h1, rfl⟩
theorem ChI.rg {bs : List Bl} (hw : waysB bs = true) (hf : flowB bs = true) {b k : Nat} (hk : k < bs.length) {x : Int} {ab : Bool} {cnt : Nat} (h : ChI bs b k x ab cnt) : -1 ≤ x ∧ x < (bs.length : Int) := by
  by_cases hx : 0 ≤ x
  · obtain ⟨y, rfl, hy, _⟩ := h.step hw hf hk hx
    omega
  · rcases h with ⟨hz, ⟨rfl, rfl⟩ | ⟨rfl, rfl⟩⟩ | ⟨p, hp, e, ⟨q, rfl, hu, hc, ha⟩ | ⟨rfl, hc, ha⟩⟩
    · omega
    · omega
    · omega
    · omega
theorem dmB_rg {bs : List Bl} (hw : waysB bs = true) (hf : flowB bs = true) {b : Nat} (hb : b < bs.length) : -1 ≤ dmB bs b ∧ dmB bs b < (bs.length : Int) := by
  obtain ⟨y, e, hy, _, h⟩ := (ChI.start hw hf (b := 0) hb).step hw hf hb (by omega)
  have : y = b := by omega
  subst this
  exact h.rg hw hf hb
theorem dmB_hole {bs : List Bl} (hw : waysB bs = true) (hf : flowB bs = true) {b : Nat} (hb : b < bs.length) (hk : (bs.getD b bl0).kind = 0) : dmB bs b = -1 := dmB_no hw hf fun j j0 j1 ej => absurd hk ((blk_pos hw hf hb).2 ⟨j, j1, ej⟩)
end Sa
end Go.Proofs.Ytbpdggdpgohilaa
