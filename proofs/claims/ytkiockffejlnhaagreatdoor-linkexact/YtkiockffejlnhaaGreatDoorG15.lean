/- link's growing, as plain lists: what waits, what has come up. -/
import Derived.Test.YtkiockffejlnhaaGreatDoorLkLong
namespace Go.Proofs.YtkiockffejlnhaaGreatDoor
open Go.RowKit
set_option linter.unusedVariables false
namespace Lk
def FarAt (P : Sh) (J : Nat → Int) (x : Int) : Prop := ∃ i : Nat, i < P.n ∧ x = i ∧ P.j i = true ∧ fitB (J i) = false
structure Wl (P : Sh) (L : Nat → Bool) (J : Nat → Int) (R Z : List Int) (J0 : Nat → Int) : Prop where
 st : St P L J (fun i => (i : Int) ∈ R ∨ (i : Int) ∈ Z)
 fr : ∀ x, x ∈ R → FarAt P J x
 fz : ∀ x, x ∈ Z → FarAt P J x
 ct : cnt J P.n + Z.length = cnt J0 P.n
theorem St.weak {P : Sh} {L : Nat → Bool} {J : Nat → Int} {Q Q' : Nat → Prop} (h : St P L J Q) (hq : ∀ i, i < P.n → P.j i = true → Q i → Q' i) : St P L J Q' :=
 ⟨h.fits, h.none, fun i hi hj hf => ⟨(h.far i hi hj hf).1, (h.far i hi hj hf).2.imp id (hq i hi hj)⟩, h.long, h.must⟩
theorem bump_far {P : Sh} {L : Nat → Bool} {J : Nat → Int} {m i : Nat} (h : fitB (J i) = false) : bump P L J m i = J i := by unfold bump; rw [h]; simp
theorem FarAt.bump {P : Sh} {L : Nat → Bool} {J : Nat → Int} {m : Nat} {x : Int} (h : FarAt P J x) : FarAt P (bump P L J m) x := by
 obtain ⟨i, h1, h2, h3, h4⟩ := h
 exact ⟨i, h1, h2, h3, by rw [bump_far h4]; exact h4⟩
theorem Wl.step {P : Sh} (hP : P.Ok) {L : Nat → Bool} {J J0 : Nat → Int} {m : Nat} {R Z : List Int} (h : Wl P L J ((m : Int) :: R) Z J0) :
  Wl P (with1 L m) (Lk.bump P L J m) R (Z ++ nl J (Lk.bump P L J m) (m - 128) (min P.n (m + 129))) J0 := by
 obtain ⟨m', hm, e, hmj, hmf⟩ := h.fr m (by simp)
 obtain rfl : m = m' := by omega
 have hnear : ∀ i, i < P.n → fitB (J i) = true → fitB (Lk.bump P L J m i) = false → m - 128 ≤ i ∧ i < m + 129 := fun i hi h1 h2 => by
  by_cases hw : i + 128 < m ∨ m + 128 < i
  ·rw [bump_near hP h.st hi hw, h1] at h2
   cases h2
  ·omega
 have hin : ∀ i, i < P.n → fitB (J i) = true → fitB (Lk.bump P L J m i) = false → (i : Int) ∈ nl J (Lk.bump P L J m) (m - 128) (min P.n (m + 129)) := fun i hi h1 h2 => by
  have := hnear i hi h1 h2
  exact (nl_mem _ _ _).2 ⟨i, Nat.lt_min.2 ⟨hi, this.2⟩, this.1, rfl, h1, h2⟩
 refine ⟨(St.bump hP h.st hm hmj hmf).weak ?_, fun x hx => (h.fr x (by simp [hx])).bump, fun x hx => ?_, ?_⟩
 ·intro i hi hj hq
  rcases hq with ⟨hq, hne⟩ | ⟨h1, h2⟩
  ·rcases hq with hq | hq
   ·simp at hq
    rcases hq with hq | hq
    ·omega
    ·exact .inl hq
   ·exact .inr (by simp [hq])
  ·exact .inr (by rw [List.mem_append]; exact .inr (hin i hi h1 h2))
 ·rw [List.mem_append] at hx
  rcases hx with hx | hx
  ·exact (h.fz x hx).bump
  ·obtain ⟨i, h1, h2, h3, h4, h5⟩ := (nl_mem _ _ _).1 hx
   have hi : i < P.n := Nat.lt_of_lt_of_le h1 (Nat.min_le_left _ _)
   refine ⟨i, hi, h3, ?_, h5⟩
   cases hj : P.j i
   ·have e0 := h.st.none i hi hj
    unfold Lk.bump at h5
    rw [hj] at h5
    simp [h4] at h5
   ·rfl
 ·have h1 := nl_cnt J (Lk.bump P L J m) (m - 128) (fun i hf => bump_far hf) P.n (min P.n (m + 129)) (Nat.min_le_left _ _)
  have h2 : cnt (mid J (Lk.bump P L J m) (m - 128) (min P.n (m + 129))) P.n = cnt (Lk.bump P L J m) P.n := cnt_congr (fun i hi => by
   unfold mid
   by_cases hw : m - 128 ≤ i ∧ i < min P.n (m + 129)
   ·rw [if_pos hw]
   ·rw [if_neg hw]
    have hw2 : i + 128 < m ∨ m + 128 < i := by
     by_cases h3 : i < m + 129
     ·have := Nat.lt_min.2 ⟨hi, h3⟩
      omega
     ·omega
    rw [bump_near hP h.st hi hw2])
  have := h.ct
  rw [List.length_append]
  omega
theorem Wl.done {P : Sh} {L : Nat → Bool} {J J0 : Nat → Int} (h : Wl P L J [] [] J0) : P.Least L := h.st.least (fun i _ _ hq => by simp at hq)
theorem Wl.turn {P : Sh} {L : Nat → Bool} {J J0 : Nat → Int} {Z : List Int} (h : Wl P L J [] Z J0) : Wl P L J Z [] J :=
 ⟨h.st.weak (fun i _ _ hq => by simp at hq; exact .inl hq), h.fz, fun x hx => by simp at hx, by simp⟩
theorem Wl.start {t p : Int} {P : PcV} (hP : P.Ok t p) : Wl (P.sh t) (fun _ => false) (immJ P t (P.sh t).s) (farL (immJ P t (P.sh t).s) (jl P P.n)) [] (immJ P t (P.sh t).s) := by
 have e : (P.sh t).size (fun _ => false) = (P.sh t).s := by funext i; unfold Sh.size; simp
 have e2 : ∀ i, (P.sh t).imm (fun _ => false) i = immS P t (P.sh t).s i := fun i => by unfold Sh.imm immS; rw [e]
 have e3 : (fun i => if (P.sh t).j i then (P.sh t).imm (fun _ => false) i else 0) = immJ P t (P.sh t).s := by
  funext i
  rw [e2]
  rfl
 have hs := St.start hP.sh
 rw [e3] at hs
 refine ⟨hs.weak (fun i hi hj hq => ?_), fun x hx => ?_, fun x hx => by simp at hx, by simp⟩
 ·refine .inl ?_
  unfold farL
  rw [List.mem_filter]
  refine ⟨(jl_mem P).2 ⟨i, hi, rfl, hj⟩, ?_⟩
  have hj' : jmpB (P.I i).op = true := hj
  rw [e2] at hq
  simp [immJ, hj', hq]
 ·unfold farL at hx
  rw [List.mem_filter] at hx
  obtain ⟨i, h1, h2, h3⟩ := (jl_mem P).1 hx.1
  refine ⟨i, h1, h2, h3, ?_⟩
  have := hx.2
  rw [h2] at this
  simpa using this
end Lk
end Go.Proofs.YtkiockffejlnhaaGreatDoor
