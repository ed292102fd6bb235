/- The instructions of linked pieces, with the Imms that lead to their labels and pieces; their bytes. -/
import Derived.Test.YtkiockffejlnhaaGreatDoorLkTake
namespace Go.Proofs.YtkiockffejlnhaaGreatDoor
open Go.RowKit
set_option linter.unusedVariables false
namespace Lk
def fin (t : Int) (V : Nat → PcV) (S : Nat → Nat → Int) (k i : Nat) : InV :=
 if jmpB ((V k).I i).op then lead ((V k).I i) (immS (V k) t (S k) i)
 else if ((V k).I i).op = 23 then lead ((V k).I i) (pos (ends V S) ((V k).I i).label.toNat - (pos (ends V S) k + pos (S k) (i + 1))) else (V k).I i
def codeP (t : Int) (V : Nat → PcV) (S : Nat → Nat → Int) (k : Nat) : Nat → List Int
 | 0 => []
 | i + 1 => codeP t V S k i ++ Ru.encT t (fin t V S k i)
def codeA (t : Int) (V : Nat → PcV) (S : Nat → Nat → Int) : Nat → List Int
 | 0 => []
 | k + 1 => codeA t V S k ++ codeP t V S k (V k).n
structure Lkd (t : Int) (K : Nat) (V : Nat → PcV) (Ls : Nat → Nat → Bool) : Prop where
 ok : ∀ k, k < K → (V k).Ok t K
 le : ∀ k, k < K → ((V k).sh t).Least (Ls k)
 rng : ∀ k, k < K → ∀ i, i < (V k).n → InRng ((V k).I i)
 max : pos (ends V (fun k => ((V k).sh t).size (Ls k))) K ≤ 1048576
def SS (t : Int) (V : Nat → PcV) (Ls : Nat → Nat → Bool) (k : Nat) : Nat → Int := ((V k).sh t).size (Ls k)
theorem pos_mono {s : Nat → Int} {a b : Nat} (h : a ≤ b) (hs : ∀ i, a ≤ i → i < b → 0 ≤ s i) : pos s a ≤ pos s b := by
 have := pos_le (s := fun _ => 0) (s' := s) h (fun i h1 h2 => hs i h1 h2)
 have e : ∀ k, pos (fun _ => (0 : Int)) k = 0 := fun k => by
  induction k with
  | zero => rfl
  | succ k ih => rw [pos_succ, ih]; rfl
 rw [e, e] at this
 omega
theorem size_le {t p : Int} {P : PcV} (h : P.Ok t p) (L : Nat → Bool) {i : Nat} (hi : i < P.n) : 1 ≤ (P.sh t).size L i ∧ (P.sh t).size L i ≤ 33 := by
 refine ⟨h.sh.size1 L hi, ?_⟩
 unfold Sh.size
 split
 ·show long t ≤ 33; unfold long; split <;> decide
 ·show ((Ru.encT t (bare (P.I i))).length : Int) ≤ 33
  have := (Ru.encT_len t (bare (P.I i))).2
  omega
theorem Lkd.ends0 {t : Int} {K : Nat} {V : Nat → PcV} {Ls : Nat → Nat → Bool} (h : Lkd t K V Ls) {k : Nat} (hk : k < K) : 0 ≤ ends V (SS t V Ls) k := by
 have := pos_mono (s := SS t V Ls k) (Nat.zero_le (V k).n) (fun i _ hi => by have := (size_le (h.ok k hk) (Ls k) hi).1; show 0 ≤ ((V k).sh t).size (Ls k) i; omega)
 simpa [pos, ends] using this
theorem Lkd.pos_in {t : Int} {K : Nat} {V : Nat → PcV} {Ls : Nat → Nat → Bool} (h : Lkd t K V Ls) {k : Nat} (hk : k < K) {i : Nat} (hi : i ≤ (V k).n) : 0 ≤ pos (SS t V Ls k) i ∧ pos (ends V (SS t V Ls)) k + pos (SS t V Ls k) i ≤ 1048576 ∧ 0 ≤ pos (ends V (SS t V Ls)) k := by
 have h0 : ∀ j, j < (V k).n → 0 ≤ SS t V Ls k j := fun j hj => by have := (size_le (h.ok k hk) (Ls k) hj).1; show 0 ≤ ((V k).sh t).size (Ls k) j; omega
 have h1 := pos_mono (s := SS t V Ls k) (Nat.zero_le i) (fun j _ hj => h0 j (by omega))
 have h2 := pos_mono (s := SS t V Ls k) hi (fun j _ hj => h0 j hj)
 have h3 := pos_mono (s := ends V (SS t V Ls)) (Nat.zero_le k) (fun j _ hj => h.ends0 (by omega))
 have h4 := pos_mono (s := ends V (SS t V Ls)) (a := k + 1) (b := K) (by omega) (fun j _ hj => h.ends0 hj)
 have h5 : pos (ends V (SS t V Ls)) (k + 1) = pos (ends V (SS t V Ls)) k + pos (SS t V Ls k) (V k).n := rfl
 have h6 : pos (ends V (SS t V Ls)) K ≤ 1048576 := h.max
 have e0 : pos (SS t V Ls k) 0 = 0 := rfl
 have e1 : pos (ends V (SS t V Ls)) 0 = 0 := rfl
 omega
theorem Lkd.n_le {t : Int} {K : Nat} {V : Nat → PcV} {Ls : Nat → Nat → Bool} (h : Lkd t K V Ls) {k : Nat} (hk : k < K) : (V k).n ≤ 1048576 := by
 have h1 := pos_count (s := SS t V Ls k) (Nat.zero_le (V k).n) (fun j _ hj => (size_le (h.ok k hk) (Ls k) hj).1)
 have h2 := h.pos_in hk (Nat.le_refl (V k).n)
 have e0 : pos (SS t V Ls k) 0 = 0 := rfl
 omega
theorem Lkd.fin {t : Int} {K : Nat} {V : Nat → PcV} {Ls : Nat → Nat → Bool} (h : Lkd t K V Ls) {k : Nat} (hk : k < K) {i : Nat} (hi : i < (V k).n) :
  Ru.mayT t (Lk.fin t V (SS t V Ls) k i) = true ∧ InRng (Lk.fin t V (SS t V Ls) k i) ∧ ((Ru.encT t (Lk.fin t V (SS t V Ls) k i)).length : Int) = SS t V Ls k i := by
 have hm := (h.ok k hk).may hi
 have hr := h.rng k hk i hi
 have hp := h.pos_in hk (i := i + 1) (by omega)
 unfold Lk.fin
 cases hj : jmpB ((V k).I i).op
 ·simp only [Bool.false_eq_true, if_false]
  by_cases hc : ((V k).I i).op = 23
  ·rw [if_pos hc]
   have hl := lab_call hm.1 hc
   have hq := h.pos_in (k := ((V k).I i).label.toNat) (by omega) (Nat.zero_le _)
   have e0 : pos (SS t V Ls ((V k).I i).label.toNat) 0 = 0 := rfl
   refine ⟨may_lead (.inr hc) hm.2 (by omega) (by omega), ⟨?_, ?_, hr.s1, hr.s2⟩, ?_⟩
   ·show -9223372036854775808 ≤ _ - _; omega
   ·show _ - _ ≤ (9223372036854775807 : Int); omega
   ·rw [len_call hc]
    show _ = ((V k).sh t).size (Ls k) i
    unfold Sh.size
    have : ((V k).sh t).j i = false := hj
    rw [this]
    rfl
  ·rw [if_neg hc]
   have hb := bare_label (lab_none hm.1 hj hc)
   rw [hb] at hm
   refine ⟨hm.2, hr, ?_⟩
   show _ = ((V k).sh t).size (Ls k) i
   unfold Sh.size
   have : ((V k).sh t).j i = false := hj
   rw [this]
   show _ = ((Ru.encT t (bare ((V k).I i))).length : Int)
   rw [hb]
 ·simp only [if_true]
  have htg := (h.ok k hk).sh.tg i hi hj
  have hq := h.pos_in hk htg
  have hs : -2147483648 ≤ ((V k).sh t).imm (Ls k) i ∧ ((V k).sh t).imm (Ls k) i < 2147483648 := by
   unfold Sh.imm
   have e1 : pos (((V k).sh t).size (Ls k)) (((V k).sh t).tg i) = pos (SS t V Ls k) (((V k).sh t).tg i) := rfl
   have e2 : pos (((V k).sh t).size (Ls k)) (i + 1) = pos (SS t V Ls k) (i + 1) := rfl
   rw [e1, e2]
   omega
  have hi2 : immS (V k) t (SS t V Ls k) i = ((V k).sh t).imm (Ls k) i := rfl
  rw [hi2]
  refine ⟨may_lead (.inl hj) hm.2 hs.1 hs.2, ⟨?_, ?_, hr.s1, hr.s2⟩, (h.ok k hk).len (h.le k hk) hi hj hs⟩
  ·show -9223372036854775808 ≤ ((V k).sh t).imm (Ls k) i; omega
  ·show ((V k).sh t).imm (Ls k) i ≤ 9223372036854775807; omega
theorem Lkd.lenP {t : Int} {K : Nat} {V : Nat → PcV} {Ls : Nat → Nat → Bool} (h : Lkd t K V Ls) {k : Nat} (hk : k < K) : ∀ {i : Nat}, i ≤ (V k).n → ((codeP t V (SS t V Ls) k i).length : Int) = pos (SS t V Ls k) i
 | 0, _ => rfl
 | i + 1, hi => by
  have := h.lenP hk (i := i) (by omega)
  have h2 := (h.fin hk (i := i) (by omega)).2.2
  unfold codeP
  rw [List.length_append, pos_succ]
  omega
theorem Lkd.lenA {t : Int} {K : Nat} {V : Nat → PcV} {Ls : Nat → Nat → Bool} (h : Lkd t K V Ls) : ∀ {k : Nat}, k ≤ K → ((codeA t V (SS t V Ls) k).length : Int) = pos (ends V (SS t V Ls)) k
 | 0, _ => rfl
 | k + 1, hk => by
  have := h.lenA (k := k) (by omega)
  have h2 := h.lenP (k := k) (by omega) (Nat.le_refl _)
  unfold codeA
  have e : ends V (SS t V Ls) k = pos (SS t V Ls k) (V k).n := rfl
  rw [List.length_append, pos_succ, e]
  omega
end Lk
end Go.Proofs.YtkiockffejlnhaaGreatDoor
