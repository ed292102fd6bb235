/- What holds of the order in which the blocks are left, plain. -/
import Derived.Test.YtbpdggdpgohilaaG7
import Derived.Test.YtbpdggdpgohilaaSaWs
namespace Go.Proofs.Ytbpdggdpgohilaa
open Go.RowKit
set_option linter.unusedVariables false
namespace Sa
def Hn (bs : List Bl) (l : List Int) : Prop := ∀ x, x ∈ l → (bs.getD x.toNat bl0).kind ≠ 0
def SucB (bs : List Bl) : Prop := ∀ b, b < bs.length → ∀ x, x ∈ (bs.getD b bl0).succs → (bs.getD x.toNat bl0).kind ≠ 0
theorem sucB {bs : List Bl} (h : waysB bs = true) : SucB bs := fun b hb x hx => by
  have h1 := (waysB_iff h).2.2 b hb
  unfold wayB at h1
  simp only [Bool.and_eq_true, areBlks, List.all_eq_true, isBlk, bne_iff_ne] at h1
  exact (h1.2.2 x hx).2
theorem SucB.any {bs : List Bl} (h : SucB bs) (b : Nat) : Hn bs (bs.getD b bl0).succs := fun x hx => by
  by_cases hb : b < bs.length
  · exact h b hb x hx
  · rw [List.getD_eq_getElem?_getD, List.getElem?_eq_none (by omega)] at hx
    simp [bl0] at hx
theorem visits_blk {bs : List Bl} {f : Nat} (ih : ∀ b p w, (bs.getD b.toNat bl0).kind ≠ 0 → Hn bs w.order → Hn bs (visit bs f b p w).order) : ∀ {l : List Int} {own : Nat} {w : Wk}, Hn bs l → Hn bs w.order → Hn bs (visits bs f own l w).order
  | [], own, w, _, h => by rw [visits]; exact h
  | x :: l, own, w, hl, h => by
    rw [visits]
    refine visits_blk ih (fun y hy => hl y (by simp [hy])) ?_
    split
    · exact ih x own w (hl x (by simp)) h
    · exact h
theorem visit_blk {bs : List Bl} (hs : SucB bs) : ∀ f b p w, (bs.getD b.toNat bl0).kind ≠ 0 → Hn bs w.order → Hn bs (visit bs f b p w).order
  | 0, b, p, w, _, h => by rw [visit]; exact h
  | f + 1, b, p, w, hb, h => by
    rw [visit]
    refine visits_blk (visit_blk hs f) (hs.any _) (fun x hx => ?_)
    have eo : (w.on b p).order = w.order ++ [b] := rfl
    rw [eo] at hx
    rcases List.mem_append.1 hx with hx | hx
    · exact h x hx
    · rw [List.mem_singleton.1 hx]; exact hb
/-- where in a row's first places a number stands last -/
def rkP (p : List Int) : Nat → Nat → Int
  | 0, _ => -1
  | k + 1, b => setF (rkP p k) (p.getD k 0).toNat (k : Int) b
/-- what the walk tells -/
structure PostP (bs : List Bl) (p : List Int) : Prop where
  rg : ∀ x, x ∈ p → ∃ b : Nat, b < bs.length ∧ x = b ∧ (bs.getD b bl0).kind ≠ 0
  nd : p.Nodup
  last : ∃ l, p = l ++ [0]
  all : ∀ b, b < bs.length → (bs.getD b bl0).kind ≠ 0 → (b : Int) ∈ p
  edge : ∀ P k Q, p = P ++ k :: Q → ∀ s, s ∈ (bs.getD k.toNat bl0).succs → s ∈ P ∨ Reach bs s k
theorem postP {bs : List Bl} (hw : waysB bs = true) (hf : flowB bs = true) : PostP bs (fwalk bs).2 := by
  obtain ⟨h0, h4, hwa⟩ := waysB_iff hw
  obtain ⟨hi, hp, hm, hl⟩ := fwalk_ok (leads hw) h0
  unfold flowB at hf
  simp only [Bool.and_eq_true, bne_iff_ne] at hf
  obtain ⟨⟨⟨⟨hk0, _⟩, _⟩, _⟩, hr⟩ := hf
  refine ⟨fun x hx => ?_, hp.nd, hl, fun b hb hk => ?_, hp.edge⟩
  · have h1 := (hm x).1 hx
    obtain ⟨b, hb, rfl⟩ := hi.in h1
    refine ⟨b, hb, rfl, ?_⟩
    rw [fwalk_fst] at h1
    have h2 := visit_blk (sucB hw) bs.length 0 (-1) ⟨fun _ => -1, [], []⟩ hk0 (fun x hx => by simp at hx)
    have h3 := h2 _ h1
    rw [Int.toNat_natCast] at h3
    exact h3
  · rw [hm, hi.mem hb, fwalk_fst]
    have h8 := List.all_eq_true.1 hr b (List.mem_range.2 hb)
    rw [Bool.or_eq_true, beq_iff_eq, bne_iff_ne] at h8
    exact h8.resolve_left hk
theorem rkP_in {p : List Int} (hp : ∀ x, x ∈ p → 0 ≤ x) : ∀ {k b : Nat}, k ≤ p.length → rkP p k b = -1 ∧ (∀ j, j < k → p.getD j 0 ≠ b) ∨ ∃ j, j < k ∧ p.getD j 0 = b ∧ rkP p k b = j
  | 0, b, _ => .inl ⟨rfl, fun j hj => by omega⟩
  | k + 1, b, hk => by
    have h0 : 0 ≤ p.getD k 0 := by
      rw [List.getD_eq_getElem?_getD, List.getElem?_eq_getElem (by omega), Option.getD_some]
      exact hp _ (List.getElem_mem _)
    unfold rkP setF
    split
    · rename_i e
      exact .inr ⟨k, by omega, by omega, rfl⟩
    · rename_i e
      rcases rkP_in hp (k := k) (b := b) (by omega) with ⟨h1, h2⟩ | ⟨j, h1, h2, h3⟩
      · refine .inl ⟨h1, fun j hj => ?_⟩
        by_cases ej : j = k
        · subst ej; intro e2; exact e (by omega)
        · exact h2 j (by omega)
      · exact .inr ⟨j, by omega, h2, h3⟩
theorem nodup_getD {p : List Int} (h : p.Nodup) {i j : Nat} (hi : i < p.length) (hj : j < p.length) (e : p.getD i 0 = p.getD j 0) : i = j := by
  rw [List.getD_eq_getElem?_getD, List.getD_eq_getElem?_getD, List.getElem?_eq_getElem hi, List.getElem?_eq_getElem hj, Option.getD_some, Option.getD_some] at e
  have h2 := List.pairwise_iff_getElem.1 h
  rcases Nat.lt_trichotomy i j with h3 | h3 | h3
  · exact absurd e (h2 i j hi hj h3)
  · exact h3
  · exact absurd e.symm (h2 j i hj hi h3)
theorem getD_mem {p : List Int} {i : Nat} (hi : i < p.length) : p.getD i 0 ∈ p := by
  rw [List.getD_eq_getElem?_getD, List.getElem?_eq_getElem hi, Option.getD_some]
  exact List.getElem_mem hi
theorem PostP.pos {bs : List Bl} {p : List Int} (h : PostP bs p) : ∀ x, x ∈ p → 0 ≤ x := fun x hx => by
  obtain ⟨b, _, rfl, _⟩ := h.rg x hx
  omega
/-- the next one has not been told -/
theorem PostP.new {bs : List Bl} {p : List Int} (h : PostP bs p) {k : Nat} (hk : k < p.length) : rkP p k (p.getD k 0).toNat = -1 := by
  have h0 := h.pos _ (getD_mem hk)
  rcases rkP_in h.pos (k := k) (b := (p.getD k 0).toNat) (by omega) with ⟨h1, _⟩ | ⟨j, h1, h2, _⟩
  · exact h1
  · rw [Int.toNat_of_nonneg h0] at h2
    have := nodup_getD h.nd (by omega) hk h2
    omega
theorem PostP.cnt {bs : List Bl} {p : List Int} (h : PostP bs p) : ∀ k, k ≤ p.length → k + un (rkP p k) bs.length = bs.length
  | 0, _ => by
    have : ∀ n, un (rkP p 0) n = n := fun n => by
      induction n with
      | zero => rfl
      | succ n ih => unfold un; rw [ih, if_pos (show rkP p 0 n = -1 from rfl)]
    rw [this]; omega
  | k + 1, hk => by
    have h1 := h.cnt k (by omega)
    obtain ⟨b, hb, e, _⟩ := h.rg _ (getD_mem (i := k) (by omega))
    have h2 := h.new (k := k) (by omega)
    rw [e, Int.toNat_natCast] at h2
    have h3 : rkP p (k + 1) = setF (rkP p k) b (k : Int) := by
      funext q
      show setF (rkP p k) (p.getD k 0).toNat (k : Int) q = _
      rw [e, Int.toNat_natCast]
    have h4 := un_set (x := (k : Int)) h2 (by omega) hb
    rw [h3]
    omega
/-- how many holes -/
def holesN (bs : List Bl) : Nat → Nat
  | 0 => 0
  | n + 1 => holesN bs n + (if (bs.getD n bl0).kind = 0 then 1 else 0)
theorem PostP.rk {bs : List Bl} {p : List Int} (h : PostP bs p) {b : Nat} (hb : b < bs.length) : rkP p p.length b = -1 ↔ (bs.getD b bl0).kind = 0 := by
  rcases rkP_in h.pos (k := p.length) (b := b) (Nat.le_refl _) with ⟨h1, h2⟩ | ⟨j, h1, h2, h3⟩
  · refine ⟨fun _ => ?_, fun _ => h1⟩
    by_cases hk : (bs.getD b bl0).kind = 0
    · exact hk
    · obtain ⟨j, hj, e⟩ := List.mem_iff_getElem.1 (h.all b hb hk)
      exact absurd (by rw [List.getD_eq_getElem?_getD, List.getElem?_eq_getElem hj, Option.getD_some, e]) (h2 j hj)
  · refine ⟨fun e => by omega, fun e => ?_⟩
    obtain ⟨c, hc, e2, hk⟩ := h.rg _ (getD_mem h1)
    have : c = b := by omega
    subst this
    exact absurd e hk
theorem PostP.holes {bs : List Bl} {p : List Int} (h : PostP bs p) : p.length + holesN bs bs.length = bs.length := by
  have h1 := h.cnt p.length (Nat.le_refl _)
  have h2 : ∀ n, n ≤ bs.length → un (rkP p p.length) n = holesN bs n := fun n => by
    induction n with
    | zero => intro _; rfl
    | succ n ih =>
      intro hn
      unfold un holesN
      rw [ih (by omega)]
      by_cases e : (bs.getD n bl0).kind = 0
      · rw [if_pos e, if_pos ((h.rk (by omega)).2 e)]
      · rw [if_neg e, if_neg (fun e2 => e ((h.rk (by omega)).1 e2))]
  rw [h2 _ (Nat.le_refl _)] at h1
  exact h1
/-- a way to a block that is left later leads back -/
theorem PostP.way {bs : List Bl} {p : List Int} (h : PostP bs p) (hl : Leads bs) {k y : Nat} (hk : k < bs.length) (hkk : (bs.getD k bl0).kind ≠ 0) (hy : (y : Int) ∈ (bs.getD k bl0).succs) (hr : rkP p p.length k < rkP p p.length y) : Reach bs y k := by
  rcases rkP_in h.pos (k := p.length) (b := k) (Nat.le_refl _) with ⟨h1, _⟩ | ⟨i, h1, h2, h3⟩
  · exact absurd ((h.rk hk).1 h1) hkk
  · have e : p = p.take i ++ (k : Int) :: p.drop (i + 1) := by
      have e1 : p[i] = (k : Int) := by rw [List.getD_eq_getElem?_getD, List.getElem?_eq_getElem h1, Option.getD_some] at h2; exact h2
      rw [← e1, List.getElem_cons_drop, List.take_append_drop]
    rcases h.edge _ _ _ e (y : Int) (by rw [Int.toNat_natCast]; exact hy) with h5 | h5
    · exfalso
      obtain ⟨j, hj, e5⟩ := List.mem_iff_getElem.1 h5
      rw [List.length_take] at hj
      rw [List.getElem_take] at e5
      rcases rkP_in h.pos (k := p.length) (b := y) (Nat.le_refl _) with ⟨h6, _⟩ | ⟨j2, h6, h7, h8⟩
      · omega
      · have e6 : p.getD j 0 = (y : Int) := by rw [List.getD_eq_getElem?_getD, List.getElem?_eq_getElem (by omega), Option.getD_some, e5]
        have := nodup_getD h.nd (by omega) h6 (e6.trans h7.symm)
        omega
    · exact h5
theorem PostP.ne {bs : List Bl} {p : List Int} (h : PostP bs p) : 0 < p.length ∧ p.getD (p.length - 1) 0 = 0 := by
  obtain ⟨l, rfl⟩ := h.last
  simp
end Sa
end Go.Proofs.Ytbpdggdpgohilaa
