/- Instructions of R64 by the page's rows, as plain functions on integers: which there are, their bytes, and back. No Go here. -/
import Derived.Test.YtkpmhgkljedapaaMBase
namespace Go.Proofs.Ytkpmhgkljedapaa
set_option linter.unusedVariables false

/-- an instruction's nine numbers -/
structure InV where
  op : Int
  a : Int
  b : Int
  c : Int
  k : Int
  sub : Int
  scale : Int
  imm : Int
  label : Int

namespace Rc
/-- which fields a code uses: the page's letters -/
def fld (op : Int) : ByteArray :=
  if op = 1 ∨ op = 2 ∨ op = 20 ∨ op = 21 then ⟨#[65, 73]⟩ else if op = 3 ∨ op = 26 then ⟨#[65, 66]⟩ else if op = 4 then ⟨#[65, 66, 67, 75, 83]⟩
  else if op = 7 ∨ op = 8 then ⟨#[65, 66, 75, 83]⟩ else if op = 9 then ⟨#[65, 66, 73]⟩ else if op = 11 ∨ op = 13 then ⟨#[65, 66, 75, 73]⟩
  else if op = 15 then ⟨#[65, 66, 67, 73]⟩ else if op = 19 ∨ op = 23 ∨ op = 25 ∨ op = 29 then ⟨#[73]⟩ else if op = 27 ∨ op = 28 then ⟨#[65]⟩ else if op = 24 then ⟨#[45]⟩ else ⟨#[]⟩
def hasS (s : ByteArray) (c : Int) : Bool := s.data.toList.any (fun b => (b.toNat : Int) == c)
def regB (n : Int) : Bool := decide (0 ≤ n) && decide (n < 16)
def smallB (n : Int) : Bool := decide (-2147483648 ≤ n) && decide (n < 2147483648)
def kindB (v : InV) : Bool :=
  if v.op = 4 then Wd.hasBinB v.sub v.k else if v.op = 7 then Wd.hasUnB v.sub v.k else if v.op = 8 then Wd.numB v.sub && Wd.numB v.k else if v.op = 11 ∨ v.op = 13 then Wd.wordB v.k
  else if v.op = 15 then decide (0 ≤ v.imm) && decide (v.imm < 16) else if v.op = 25 then decide (0 ≤ v.imm) else if v.op = 29 then decide (0 < v.imm) else true
/-- is it an instruction of R64? -/
def mayB (v : InV) : Bool :=
  !(fld v.op).data.isEmpty && v.scale == 0 && v.label == 0 && regB v.a && regB v.b && regB v.c && smallB v.imm &&
  (hasS (fld v.op) 65 || v.a == 0) && (hasS (fld v.op) 66 || v.b == 0) && (hasS (fld v.op) 67 || v.c == 0) && (hasS (fld v.op) 75 || v.k == 0) && (hasS (fld v.op) 83 || v.sub == 0) && (hasS (fld v.op) 73 || v.imm == 0) && kindB v
def cc (v : InV) : Int := if v.op = 11 ∨ v.op = 13 then v.k else v.c
def nn (v : InV) : Int := if v.op = 4 ∨ v.op = 7 ∨ v.op = 8 then v.k + 256 * v.sub else v.imm
/-- its bytes -/
def enc (v : InV) (i : Nat) : Int :=
  if i = 0 then v.op % 256 else if i = 1 then v.a % 256 else if i = 2 then v.b % 256 else if i = 3 then cc v % 256 else Mm.by8 (nn v % 4294967296) (i - 4)
/-- a number of 32 bits, signed -/
def s32 (u : Int) : Int := (u + 2147483648) % 4294967296 - 2147483648
/-- what eight bytes say, if that is an instruction -/
def rd (g : Nat → Int) : InV :=
  let n := s32 (Mm.ld g 4 4)
  if g 0 = 4 ∨ g 0 = 7 ∨ g 0 = 8 then ⟨g 0, g 1, g 2, g 3, n % 256, n / 256, 0, 0, 0⟩
  else if g 0 = 11 ∨ g 0 = 13 then ⟨g 0, g 1, g 2, 0, g 3, 0, 0, n, 0⟩ else ⟨g 0, g 1, g 2, g 3, 0, 0, 0, n, 0⟩
def wideB (g : Nat → Int) : Bool := (g 0 == 4 || g 0 == 7 || g 0 == 8) && (decide (s32 (Mm.ld g 4 4) < 0) || decide (65536 ≤ s32 (Mm.ld g 4 4)))
def okB (g : Nat → Int) : Bool := !wideB g && mayB (rd g)

theorem codes (v : InV) (h : mayB v = true) : v.op = 1 ∨ v.op = 2 ∨ v.op = 3 ∨ v.op = 4 ∨ v.op = 7 ∨ v.op = 8 ∨ v.op = 9 ∨ v.op = 11 ∨ v.op = 13 ∨ v.op = 15 ∨ v.op = 19 ∨ v.op = 20 ∨ v.op = 21 ∨ v.op = 23 ∨ v.op = 24 ∨ v.op = 25 ∨ v.op = 26 ∨ v.op = 27 ∨ v.op = 28 ∨ v.op = 29 := by
  by_cases hh : (v.op = 1 ∨ v.op = 2 ∨ v.op = 3 ∨ v.op = 4 ∨ v.op = 7 ∨ v.op = 8 ∨ v.op = 9 ∨ v.op = 11 ∨ v.op = 13 ∨ v.op = 15 ∨ v.op = 19 ∨ v.op = 20 ∨ v.op = 21 ∨ v.op = 23 ∨ v.op = 24 ∨ v.op = 25 ∨ v.op = 26 ∨ v.op = 27 ∨ v.op = 28 ∨ v.op = 29)
  · exact hh
  · exfalso
    have e : fld v.op = ⟨#[]⟩ := by
      unfold fld
      rw [if_neg (by omega), if_neg (by omega), if_neg (by omega), if_neg (by omega), if_neg (by omega), if_neg (by omega), if_neg (by omega), if_neg (by omega), if_neg (by omega), if_neg (by omega)]
    unfold mayB at h
    rw [e] at h
    simp at h

theorem ld_enc (v : InV) : Mm.ld (enc v) 4 4 = nn v % 4294967296 := by
  have h : Mm.ld (enc v) 4 4 = Mm.ld (Mm.by8 (nn v % 4294967296)) 0 4 := Mm.ld_congr fun i hi => by
    unfold enc
    rw [if_neg (by omega), if_neg (by omega), if_neg (by omega), if_neg (by omega)]
    congr 1; omega
  rw [h, Mm.ld_by8]
  omega
theorem s32_mod (n : Int) (h1 : -2147483648 ≤ n) (h2 : n < 2147483648) : s32 (n % 4294967296) = n := by unfold s32; omega

/-- the ranges of an instruction's numbers -/
structure Rng (v : InV) : Prop where
  sc : v.scale = 0
  lb : v.label = 0
  a1 : 0 ≤ v.a
  a2 : v.a < 16
  b1 : 0 ≤ v.b
  b2 : v.b < 16
  c1 : 0 ≤ v.c
  c2 : v.c < 16
  i1 : -2147483648 ≤ v.imm
  i2 : v.imm < 2147483648
  u0 : hasS (fld v.op) 65 = true ∨ v.a = 0
  u1 : hasS (fld v.op) 66 = true ∨ v.b = 0
  u2 : hasS (fld v.op) 67 = true ∨ v.c = 0
  u3 : hasS (fld v.op) 75 = true ∨ v.k = 0
  u4 : hasS (fld v.op) 83 = true ∨ v.sub = 0
  u5 : hasS (fld v.op) 73 = true ∨ v.imm = 0
  kd : kindB v = true
theorem rng {v : InV} (h : mayB v = true) : Rng v := by
  unfold mayB regB smallB at h
  simp only [Bool.and_eq_true, Bool.or_eq_true, beq_iff_eq, decide_eq_true_eq] at h
  obtain ⟨⟨⟨⟨⟨⟨⟨⟨⟨⟨⟨⟨⟨h0, h1⟩, h2⟩, h3⟩, h4⟩, h5⟩, h6⟩, h7⟩, h8⟩, h9⟩, h10⟩, h11⟩, h12⟩, h13⟩ := h
  exact ⟨h1, h2, h3.1, h3.2, h4.1, h4.2, h5.1, h5.2, h6.1, h6.2, h7, h8, h9, h10, h11, h12, h13⟩

theorem bin_rng {op k : Int} (h : Wd.hasBinB op k = true) : 1 ≤ op ∧ op ≤ 16 ∧ 1 ≤ k ∧ k ≤ 11 := by
  unfold Wd.hasBinB Wd.intB Wd.cmpB at h; simp at h; omega
theorem un_rng {op k : Int} (h : Wd.hasUnB op k = true) : 1 ≤ op ∧ op ≤ 3 ∧ 1 ≤ k ∧ k ≤ 11 := by
  unfold Wd.hasUnB Wd.numB Wd.intB at h; simp at h; omega

theorem conv_rng {f t : Int} (h : (Wd.numB f && Wd.numB t) = true) : 2 ≤ f ∧ f ≤ 10 ∧ 2 ≤ t ∧ t ≤ 10 := by
  unfold Wd.numB at h; simp at h; omega
theorem word_rng {k : Int} (h : Wd.wordB k = true) : 1 ≤ k ∧ k ≤ 11 := by unfold Wd.wordB at h; simpa using h

/-- its bytes say it -/
theorem back (v : InV) (h : mayB v = true) : rd (enc v) = v ∧ wideB (enc v) = false := by
  have r := rng h
  have hc := codes v h
  have e0 : enc v 0 = v.op := by show v.op % 256 = _; omega
  have e1 : enc v 1 = v.a := by show v.a % 256 = _; have := r.a1; have := r.a2; omega
  have e2 : enc v 2 = v.b := by show v.b % 256 = _; have := r.b1; have := r.b2; omega
  have e3 : enc v 3 = cc v % 256 := rfl
  obtain ⟨op, a, b, c, k, sub, sc, imm, lb⟩ := v
  obtain ⟨h1, h2, a1, a2, b1, b2, c1, c2, i1, i2, u0, u1, u2, u3, u4, u5, kd⟩ := r
  dsimp only at *
  subst h1 h2
  rcases hc with rfl | rfl | rfl | rfl | rfl | rfl | rfl | rfl | rfl | rfl | rfl | rfl | rfl | rfl | rfl | rfl | rfl | rfl | rfl | rfl
  all_goals try (replace u0 := u0.resolve_left (by decide))
  all_goals try (replace u1 := u1.resolve_left (by decide))
  all_goals try (replace u2 := u2.resolve_left (by decide))
  all_goals try (replace u3 := u3.resolve_left (by decide))
  all_goals try (replace u4 := u4.resolve_left (by decide))
  all_goals try (replace u5 := u5.resolve_left (by decide))
  all_goals try (replace kd := bin_rng (show Wd.hasBinB sub k = true from kd))
  all_goals try (replace kd := un_rng (show Wd.hasUnB sub k = true from kd))
  all_goals try (replace kd := conv_rng (show (Wd.numB sub && Wd.numB k) = true from kd))
  all_goals try (replace kd := word_rng (show Wd.wordB k = true from kd))
  all_goals
    unfold rd wideB
    rw [e0, e1, e2, e3, ld_enc]
    simp only [nn, cc, Int.reduceEq, or_self, or_false, or_true, if_true, if_false]
    rw [s32_mod _ (by omega) (by omega)]
    refine ⟨?_, ?_⟩
    · simp only [InV.mk.injEq, true_and, and_true]; omega
    · first | rfl | (simp; done) | (simp; omega)
theorem ok_enc (v : InV) (h : mayB v = true) : okB (enc v) = true := by
  have b := back v h
  unfold okB; rw [b.1, b.2, h]; rfl
theorem rd_congr {g g' : Nat → Int} (h : ∀ i, i < 8 → g i = g' i) : rd g = rd g' ∧ okB g = okB g' := by
  have l : Mm.ld g 4 4 = Mm.ld g' 4 4 := Mm.ld_congr fun i hi => h _ (by omega)
  have r : rd g = rd g' := by unfold rd; rw [l, h 0 (by omega), h 1 (by omega), h 2 (by omega), h 3 (by omega)]
  refine ⟨r, ?_⟩
  unfold okB wideB
  rw [r, l, h 0 (by omega)]
/-- no two instructions have the same bytes -/
theorem inj {u v : InV} (hu : mayB u = true) (hv : mayB v = true) (h : ∀ i, i < 8 → enc u i = enc v i) : u = v := by
  rw [← (back u hu).1, ← (back v hv).1, (rd_congr h).1]
theorem enc_fit (v : InV) : Mm.Fit (enc v) := by
  intro i; unfold enc
  repeat' split
  all_goals first | omega | exact Mm.by8_rng _ _
theorem rd_rng {g : Nat → Int} (hg : Mm.Fit g) : 0 ≤ (rd g).op ∧ (rd g).op < 256 ∧ 0 ≤ (rd g).a ∧ (rd g).a < 256 ∧ 0 ≤ (rd g).b ∧ (rd g).b < 256 := by
  have h0 := hg 0
  have h1 := hg 1
  have h2 := hg 2
  unfold rd
  dsimp only
  repeat' split
  all_goals (dsimp only; omega)
end Rc
end Go.Proofs.Ytkpmhgkljedapaa
