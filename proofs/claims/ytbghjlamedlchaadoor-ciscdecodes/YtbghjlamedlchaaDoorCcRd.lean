/- Bytes read as package cisc reads them: plain. It is what the page says. -/
import Derived.Test.YtbghjlamedlchaaDoorCcCat
import Derived.Test.YtbghjlamedlchaaDoorG3
namespace Go.Proofs.YtbghjlamedlchaaDoor
set_option linter.unusedVariables false

namespace Cc
def lsetC (l : Int) (v : InV) (x y : Int) : InV := if l = 99 then { v with c := x / 16, scale := sclC (x % 16) } else lset l v x y
/-- cisc's reading: the instruction, and how many bytes; 0: they end too early; -1: a size that is none, or not the least -/
def crdL (N : Nat) (g : Nat → Int) : List Int → InV → Int → Nat → InV × Int
  | [], v, _, p => (v, p)
  | l :: s, v, z, p =>
    if N < p + lcnt l z then (v, 0)
    else if 2 < lsz l z (g p) ∨ (lsz l z (g p) = 2 ∧ v.op ≠ 1) then (v, -1)
    else if l = 105 ∧ size (num g p (lcnt l z)) ≠ z then (v, -1)
    else crdL N g s (lsetC l v (g p) (num g p (lcnt l z))) (lsz l z (g p)) (p + lcnt l z)
def cread (N : Nat) (g : Nat → Int) : InV × Int := crdL N g (rrow (g 0)) ⟨g 0, 0, 0, 0, 0, 0, 0, 0, 0⟩ 0 1
/-- is what was read such as its row allows? -/
def tiesB (v : InV) : Bool := cond (divB v.sub v.k) (v.a == 0 && v.b != 0 && v.b != 2) (cond (Wd.shB v.sub) (v.b == 1 && v.a != 1) true)
def fitsB (v : InV) : Bool :=
  if v.op = 4 then Wd.hasBinB v.sub v.k && tiesB v else if v.op = 5 then Wd.hasBinB v.sub v.k && !divB v.sub v.k && fnB v.sub v.k v.imm
  else if v.op = 6 then Wd.hasBinB v.sub v.k && !divB v.sub v.k && !Wd.shB v.sub else if v.op = 7 then Wd.hasUnB v.sub v.k && v.b == 0 else if v.op = 8 then Wd.numB v.sub && Wd.numB v.k
  else if v.op = 10 then decide (v.scale ≤ 8) && (decide (0 < v.scale) || v.c == 0) else if v.op = 11 ∨ v.op = 13 ∨ v.op = 16 then Wd.wordB v.k
  else if v.op = 12 ∨ v.op = 14 then Wd.wordB v.k && decide (0 < v.scale) && decide (v.scale ≤ 8) else if v.op = 15 ∨ v.op = 22 then Wd.cmpB v.sub else if v.op = 17 then fnB 2 v.k v.imm
  else if v.op = 18 then Wd.cmpB v.sub && v.b == 0 else if v.op = 25 then decide (0 ≤ v.imm) else if v.op = 29 then decide (0 < v.imm) else if v.op = 27 ∨ v.op = 28 then v.b == 0 else true
def cdec (N : Nat) (g : Nat → Int) : InV × Int × Int :=
  if N = 0 then (zero, 0, 41) else if (row (g 0)).isEmpty then (zero, 0, 40) else if (cread N g).2 = 0 then (zero, 0, 41)
  else if (cread N g).2 < 0 ∨ fitsB (cread N g).1 = false then (zero, 0, 40) else ((cread N g).1, (cread N g).2, 0)

/-- both readings stand beside each other -/
structure Alike (c r : InV) : Prop where
  op : c.op = r.op
  a : c.a = r.a
  b : c.b = r.b
  c' : c.c = r.c
  k : c.k = r.k
  sub : c.sub = r.sub
  imm : c.imm = r.imm
  label : c.label = r.label
  scale : c.scale = r.scale ∨ (r.scale = -1 ∧ 16 ≤ c.scale)
theorem scl_c {n : Int} (h1 : 0 ≤ n) (h2 : n < 16) : sclC n = scl n ∨ (scl n = -1 ∧ 16 ≤ sclC n) := by
  obtain h | h | h | h | h | h | h | h | h | h | h | h | h | h | h | h : n = 0 ∨ n = 1 ∨ n = 2 ∨ n = 3 ∨ n = 4 ∨ n = 5 ∨ n = 6 ∨ n = 7 ∨ n = 8 ∨ n = 9 ∨ n = 10 ∨ n = 11 ∨ n = 12 ∨ n = 13 ∨ n = 14 ∨ n = 15 := by omega
  all_goals subst h; decide
theorem lset_alike {c r : InV} (h : Alike c r) (l x y : Int) : Alike (lsetC l c x y) (lset l r x y) := by
  have hs := scl_c (n := x % 16) (by omega) (by omega)
  unfold lsetC lset
  repeat' split
  all_goals first | omega | (obtain ⟨h0, h1, h2, h3, h4, h5, h6, h7, h8⟩ := h; constructor <;> first | exact hs | assumption | rfl)
theorem lset_op (l : Int) (v : InV) (x y : Int) : (lset l v x y).op = v.op := by
  unfold lset
  repeat' split
  all_goals rfl
/-- the number stands last -/
def iLast : List Int → Bool
  | [] => true
  | l :: s => (l != 105 || s.isEmpty) && iLast s
theorem crd_alike {N : Nat} {g : Nat → Int} : ∀ (s : List Int) (c r : InV) (z : Int) (p : Nat), iLast s = true → Alike c r → 0 < p →
    ((crdL N g s c z p).2 = (rdL N g s r z p).2 ∧ (0 < (rdL N g s r z p).2 → Alike (crdL N g s c z p).1 (rdL N g s r z p).1)) ∨ ((crdL N g s c z p).2 = -1 ∧ (rdL N g s r z p).2 ≠ 0) := by
  intro s
  induction s with
  | nil => intro c r z p hl h hp; exact .inl ⟨rfl, fun _ => h⟩
  | cons l s ih =>
    intro c r z p hl h hp
    unfold iLast at hl
    rw [Bool.and_eq_true] at hl
    unfold crdL rdL
    by_cases h1 : N < p + lcnt l z
    · rw [if_pos h1, if_pos h1]; exact .inl ⟨rfl, fun e => absurd (show (0 : Int) < 0 from e) (by decide)⟩
    · rw [if_neg h1, if_neg h1, h.op]
      by_cases h2 : 2 < lsz l z (g p) ∨ (lsz l z (g p) = 2 ∧ r.op ≠ 1)
      · rw [if_pos h2, if_pos h2]; exact .inr ⟨rfl, by dsimp only; omega⟩
      · rw [if_neg h2, if_neg h2]
        by_cases h3 : l = 105 ∧ size (num g p (lcnt l z)) ≠ z
        · rw [if_pos h3]
          refine .inr ⟨rfl, ?_⟩
          have h4 : s = [] := by
            have := hl.1
            rw [h3.1] at this
            simpa using this
          subst h4
          unfold rdL
          dsimp only
          omega
        · rw [if_neg h3]
          exact ih _ _ _ _ hl.2 (lset_alike h _ _ _) (by omega)
/-- one letter back -/
theorem crd_inv {N : Nat} {g : Nat → Int} {l : Int} {s : List Int} {v v' : InV} {z : Int} {p T : Nat} (h : crdL N g (l :: s) v z p = (v', (T : Int))) (hT : 0 < T) :
    p + lcnt l z ≤ N ∧ ¬ (2 < lsz l z (g p) ∨ (lsz l z (g p) = 2 ∧ v.op ≠ 1)) ∧ ¬ (l = 105 ∧ size (num g p (lcnt l z)) ≠ z) ∧ crdL N g s (lsetC l v (g p) (num g p (lcnt l z))) (lsz l z (g p)) (p + lcnt l z) = (v', (T : Int)) := by
  unfold crdL at h
  by_cases h1 : N < p + lcnt l z
  · rw [if_pos h1] at h; simp only [Prod.mk.injEq] at h; omega
  · rw [if_neg h1] at h
    by_cases h2 : 2 < lsz l z (g p) ∨ (lsz l z (g p) = 2 ∧ v.op ≠ 1)
    · rw [if_pos h2] at h; simp only [Prod.mk.injEq] at h; omega
    · rw [if_neg h2] at h
      by_cases h3 : l = 105 ∧ size (num g p (lcnt l z)) ≠ z
      · rw [if_pos h3] at h; simp only [Prod.mk.injEq] at h; omega
      · rw [if_neg h3] at h
        exact ⟨by omega, h2, h3, h⟩
theorem crd_nil {N : Nat} {g : Nat → Int} {v v' : InV} {z : Int} {p T : Nat} (h : crdL N g [] v z p = (v', (T : Int))) : v' = v ∧ T = p := by
  unfold crdL at h
  simp only [Prod.mk.injEq] at h
  exact ⟨h.1.symm, by omega⟩
theorem by8_ld {g : Nat → Int} (hg : Mm.Fit g) {p c i : Nat} (hi : i < c) : Mm.by8 (Mm.ld g p c) i = g (p + i) := by
  induction c with
  | zero => omega
  | succ c ih =>
    have hr := Mm.ld_rng hg p c
    have hf := hg (p + c)
    rw [Mm.ld_succ]
    by_cases e : i = c
    · subst e
      unfold Mm.by8
      have hp : (256 : Int) ^ i ≠ 0 := by omega
      rw [Int.add_mul_ediv_right _ _ hp, Int.ediv_eq_zero_of_lt hr.1 hr.2]
      omega
    · rw [← ih (by omega), ← Mm.by8_mod _ i c (by omega), Int.add_mul_emod_self_right, Int.emod_eq_of_lt hr.1 hr.2]
/-- a number's bytes are what it was read of -/
theorem low_num {g : Nat → Int} (hg : Mm.Fit g) {p c i : Nat} (hc : c = 1 ∨ c = 4 ∨ c = 8) (hi : i < c) : Mm.by8 (num g p c % 18446744073709551616) i = g (p + i) := by
  have hr := Mm.ld_rng hg p c
  have e : num g p c % 18446744073709551616 % 256 ^ c = Mm.ld g p c := by
    unfold num Rc.s32 Wd.sg
    rcases hc with rfl | rfl | rfl
    · rw [if_pos rfl]; have : (256 : Int) ^ 1 = 256 := rfl
      omega
    · rw [if_neg (by decide), if_pos rfl]; have : (256 : Int) ^ 4 = 4294967296 := rfl
      omega
    · rw [if_neg (by decide), if_neg (by decide)]; have : (256 : Int) ^ 8 = 18446744073709551616 := rfl
      omega
  rw [← Mm.by8_mod _ i c hi, e]
  exact by8_ld hg hi
end Cc
end Go.Proofs.YtbghjlamedlchaaDoor
