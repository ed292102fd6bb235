/- Contracts and plain facts that the walks share, text by text: RcA, RcDefs, MStore, MGet, MHelp, RcF, RcT, RcG, RcR, RuPure, RuOk, RuTail, RcQ, RcIns, RcRowsB, CcOwn, RuPr, RuPl, RuPm, RuPn, RuW, RuPc, RuPd, RcBox. -/
import Derived.Test.YtdklaeppcjopoaaGreatG1
import Derived.Handy
import Derived.StillTailTactics
import Derived.Deep.RegionWith
import Derived.Laws.CopyOwn
import Derived.Laws.AppendOwnNone
import Derived.Deep.QuietTactic
import Derived.BigQuiet
import Derived.Deep.AppendLies
import Derived.Deep.Slices
import Derived.OpenShut
import Derived.Deep.Onto
/- has, unused, part, fits: contracts. -/
namespace Go.Proofs.YtdklaeppcjopoaaGreat
open Go.RowKit
set_option linter.unusedVariables false

namespace Mm
theorem and_255i (n : Int) : bits .and .i64 n 255 = n % 256 := by
  show IntKind.i64.wrap ((BitVec.ofInt 64 n &&& BitVec.ofInt 64 255).toNat : Int) = _
  have e : (BitVec.ofInt 64 n &&& BitVec.ofInt 64 255).toNat = (n % 256).toNat := by
    rw [BitVec.toNat_and, BitVec.toNat_ofInt, show (BitVec.ofInt 64 255).toNat = 2 ^ 8 - 1 from rfl, Nat.and_two_pow_sub_one_eq_mod]
    omega
  rw [e, IntKind.wrap_i64]
  omega
end Mm
namespace Rc
end Rc

set_option maxHeartbeats 400000 in
theorem part_any (n : Int) (w : World) (h1 : -9223372036854775808 ≤ n) (h2 : n ≤ 9223372036854775807) :
    Calls Tryz.prog 182 #[.int .i64 n] w fun e w' => e = .returned (.tuple #[.int .i64 (n % 256), .int .i64 (n / 256)]) ∧ w' = w := by
  have HB : Hid (bits .and .i64 n 255 = n % 256) := Mm.and_255i n
  go_enter Tryz.func182, Tryz.ntmps182
  go_wp2
  go_ret2
  refine ⟨?_, rfl⟩
  rw [← HB.out]; rfl

set_option maxHeartbeats 400000 in
theorem ffits_any (c a b k n : Int) (w : World) :
    Calls Tryz.prog 184 #[.agg #[.int .i64 c, .int .i64 a, .int .i64 b, .int .i64 k, .int .i64 n]] w fun e w' => e = .returned (.bool (Rc.smallB n)) ∧ w.grownBy w' none := by
  go_enter Tryz.func184, Tryz.ntmps184
  go_wp2
  go_ret
  refine ⟨ret_bool ?_, World.grownBy_alloc _ _ _⟩
  unfold Rc.smallB wrap64 wrap32
  rw [Bool.eq_iff_iff]; simp; omega

end Go.Proofs.YtdklaeppcjopoaaGreat

/- Forms of R64's instructions, as plain numbers and as values; what the walks of this layer share. -/
namespace Go.Proofs.YtdklaeppcjopoaaGreat
open Go.RowKit
set_option linter.unusedVariables false

/-- a form's five numbers -/
structure FmV where
  code : Int
  a : Int
  b : Int
  c : Int
  n : Int
namespace Rc
def pk (v : InV) : FmV :=
  if v.op = 1 ∨ v.op = 2 ∨ v.op = 20 ∨ v.op = 21 then ⟨v.op, v.a, 0, 0, v.imm⟩ else if v.op = 3 ∨ v.op = 26 then ⟨v.op, v.a, v.b, 0, 0⟩
  else if v.op = 4 then ⟨v.op, v.a, v.b, v.c, wrap64 (v.k + 256 * v.sub)⟩ else if v.op = 7 ∨ v.op = 8 then ⟨v.op, v.a, v.b, 0, wrap64 (v.k + 256 * v.sub)⟩
  else if v.op = 9 then ⟨v.op, v.a, v.b, 0, v.imm⟩ else if v.op = 11 ∨ v.op = 13 then ⟨v.op, v.a, v.b, v.k, v.imm⟩ else if v.op = 15 then ⟨v.op, v.a, v.b, v.c, v.imm⟩
  else if v.op = 19 ∨ v.op = 23 ∨ v.op = 25 ∨ v.op = 29 then ⟨v.op, 0, 0, 0, v.imm⟩ else if v.op = 27 ∨ v.op = 28 then ⟨v.op, v.a, 0, 0, 0⟩ else if v.op = 24 then ⟨v.op, 0, 0, 0, 0⟩ else ⟨0, 0, 0, 0, 0⟩
def unpk (f : FmV) : InV :=
  if f.code = 1 ∨ f.code = 2 ∨ f.code = 20 ∨ f.code = 21 then ⟨f.code, f.a, 0, 0, 0, 0, 0, f.n, 0⟩ else if f.code = 3 ∨ f.code = 26 then ⟨f.code, f.a, f.b, 0, 0, 0, 0, 0, 0⟩
  else if f.code = 4 then ⟨f.code, f.a, f.b, f.c, f.n % 256, f.n / 256, 0, 0, 0⟩ else if f.code = 7 ∨ f.code = 8 then ⟨f.code, f.a, f.b, 0, f.n % 256, f.n / 256, 0, 0, 0⟩
  else if f.code = 9 then ⟨f.code, f.a, f.b, 0, 0, 0, 0, f.n, 0⟩ else if f.code = 11 ∨ f.code = 13 then ⟨f.code, f.a, f.b, 0, f.c, 0, 0, f.n, 0⟩ else if f.code = 15 then ⟨f.code, f.a, f.b, f.c, 0, 0, 0, f.n, 0⟩
  else if f.code = 19 ∨ f.code = 23 ∨ f.code = 25 ∨ f.code = 29 then ⟨f.code, 0, 0, 0, 0, 0, 0, f.n, 0⟩ else if f.code = 27 ∨ f.code = 28 then ⟨f.code, f.a, 0, 0, 0, 0, 0, 0, 0⟩ else if f.code = 24 then ⟨f.code, 0, 0, 0, 0, 0, 0, 0, 0⟩ else ⟨0, 0, 0, 0, 0, 0, 0, 0, 0⟩
end Rc
/-- as values -/
def inst (v : InV) : Value := .agg #[.int .i64 v.op, .int .i64 v.a, .int .i64 v.b, .int .i64 v.c, .int .i64 v.k, .int .i64 v.sub, .int .i64 v.scale, .int .i64 v.imm, .int .i64 v.label]
def formv (f : FmV) : Value := .agg #[.int .i64 f.code, .int .i64 f.a, .int .i64 f.b, .int .i64 f.c, .int .i64 f.n]

namespace Rc
theorem ops (o : Int) : o = 1 ∨ o = 2 ∨ o = 20 ∨ o = 21 ∨ o = 3 ∨ o = 26 ∨ o = 4 ∨ o = 7 ∨ o = 8 ∨ o = 9 ∨ o = 11 ∨ o = 13 ∨ o = 15 ∨ o = 19 ∨ o = 23 ∨ o = 25 ∨ o = 29 ∨ o = 27 ∨ o = 28 ∨ o = 24 ∨ ((o == 1) = false ∧ (o == 2) = false ∧ (o == 20) = false ∧ (o == 21) = false ∧ (o == 3) = false ∧ (o == 26) = false ∧ (o == 4) = false ∧ (o == 7) = false ∧ (o == 8) = false ∧ (o == 9) = false ∧ (o == 11) = false ∧ (o == 13) = false ∧ (o == 15) = false ∧ (o == 19) = false ∧ (o == 23) = false ∧ (o == 25) = false ∧ (o == 29) = false ∧ (o == 27) = false ∧ (o == 28) = false ∧ (o == 24) = false) := by
  by_cases h : (o = 1 ∨ o = 2 ∨ o = 20 ∨ o = 21 ∨ o = 3 ∨ o = 26 ∨ o = 4 ∨ o = 7 ∨ o = 8 ∨ o = 9 ∨ o = 11 ∨ o = 13 ∨ o = 15 ∨ o = 19 ∨ o = 23 ∨ o = 25 ∨ o = 29 ∨ o = 27 ∨ o = 28 ∨ o = 24)
  · omega
  · simp only [not_or] at h
    simp only [beq_eq_false_iff_ne]
    right; simp only [ne_eq]; omega
end Rc
theorem grown_alloc2 (w : World) (a b : Obj) : w.grownBy ((w.alloc a).alloc b) none := grown_trans (World.grownBy_alloc _ _ _) (World.grownBy_alloc _ _ _)

theorem grown_drew {w w' : World} {row : Option Nat} (h : w.grownBy w' row) : w.grownBy w'.drew row := grown_trans h ⟨rfl, rfl, rfl, Nat.le_refl _, fun _ _ _ => rfl⟩
theorem tail_drew {P : Program} {id : Nat} {Q : Exit → Act → World → Prop} {a : Act} {w : World} {l : List Oper} (n : Nat) (hm : P.follows .mixedOrders = true) (hB : Region.lexTailB .any l.toArray n = true)
    (h : wpStill P l.toArray w.drew (fun a' => wpList P l.toArray Q (l.drop n) a' w.drew) (l.take n) a) : (Code.region id l.toArray true).wp P Q a w := wp_region_still_tail n hm hB h

end Go.Proofs.YtdklaeppcjopoaaGreat

/- (*Mem).Store: contract. -/
namespace Go.Proofs.YtdklaeppcjopoaaGreat
open Go.RowKit
set_option linter.unusedVariables false

theorem IsMem.put {t : TypeId} {w w' : World} {B D S : Nat} {m m' : Nat → Int} (h : IsMem t w B D S m) (hg : w.grownBy w' (some D)) (ht : t ≠ 5) (hr : w'.rowIs D 5 S (fun i => .int .u8 (m' i))) (hf : Mm.Fit m') : IsMem t w' B D S m' := by
  refine ⟨h.head.of_block (hg.block B h.head.lt ?_), hr, hf⟩
  intro e
  injection e with e
  subst e
  obtain ⟨c, hc, _⟩ := h.head
  obtain ⟨d, hd, _⟩ := h.row
  rw [hc] at hd
  injection hd with hd
  injection hd with _ hd
  exact ht hd

theorem IsMem.apart {t : TypeId} {w : World} {B D S : Nat} {m : Nat → Int} (h : IsMem t w B D S m) (ht : t ≠ 5) : B ≠ D := by
  intro e
  subst e
  obtain ⟨c, hc, _⟩ := h.head
  obtain ⟨d, hd, _⟩ := h.row
  rw [hc] at hd
  injection hd with hd
  injection hd with _ hd
  exact ht hd

set_option maxHeartbeats 800000 in
theorem store_any (B D S : Nat) (m : Nat → Int) (a k x : Int) (w : World) (hm : IsM w B D S m) (hS : (S : Int) ≤ 1048576) (a1 : 0 ≤ a) (a2 : a < 18446744073709551616) (x1 : 0 ≤ x) (x2 : x < 18446744073709551616) :
    Calls Tryz.prog 194 #[.pointer (some ⟨B, 0, none⟩), .int .u64 a, .int .i64 k, .int .u64 x] w fun e w' => e = .returned (.int .i64 (Mm.sE S k a x)) ∧ IsM w' B D S (Mm.sM S m k a x) ∧ w.grownBy w' (some D) := by
  rcases Mm.by_cases k with ⟨hk, hb⟩ | ⟨hk, hb⟩
  · have hb0 : (Wd.by' k == 0) = true := by rw [hb]; rfl
    have HE : Hid (Mm.sE S k a x = 10) := Mm.sE_no hk
    have HV : Hid (Mm.sM S m k a x = m) := Mm.sM_no hk
    clear hb
    go_enter Tryz.func194, Tryz.ntmps194
    go_wp2_with (go_at_call 136; refine (bytes_any _ _).mono ?_; rintro e w' ⟨rfl, rfl⟩)
    go_ret
    rw [HE.out, HV.out]
    exact ⟨rfl, hm, World.grownBy.refl _ _⟩
  · have hb0 : (Wd.by' k == 0) = false := by rcases hb with h | h | h | h <;> rw [h] <;> rfl
    cases h1 : Wd.isB k x
    · have HE : Hid (Mm.sE S k a x = 11) := Mm.sE_form hk h1
      have HV : Hid (Mm.sM S m k a x = m) := Mm.sM_form h1
      clear hb
      go_enter Tryz.func194, Tryz.ntmps194
      go_wp2_with (first
        | (go_at_call 136; refine (bytes_any _ _).mono ?_; rintro e w' ⟨rfl, rfl⟩)
        | (go_at_call 187; refine (is_any _ _ _ x1 x2).mono ?_; rintro e w' ⟨rfl, rfl⟩))
      go_ret
      rw [HE.out, HV.out]
      exact ⟨rfl, hm, World.grownBy.refl _ _⟩
    · cases h2 : Mm.hasB S a (Wd.by' k)
      · have HE : Hid (Mm.sE S k a x = 21) := Mm.sE_out hk h1 h2
        have HV : Hid (Mm.sM S m k a x = m) := Mm.sM_out h2
        have ho := Mm.has_out h2
        have hlo : -9223372036854775808 ≤ Wd.by' k := by omega
        have hhi : Wd.by' k ≤ 9223372036854775807 := by omega
        obtain ⟨n, hn⟩ : ∃ n, Wd.by' k = n := ⟨_, rfl⟩
        rw [hn] at hb0 ho hlo hhi
        have HN : Hid (Wd.by' k = n) := hn
        have HO : Hid (a < 4096 ∨ (S : Int) < a + n) := ho
        clear hb h2 ho hn
        go_enter Tryz.func194, Tryz.ntmps194
        go_wp2_with (first
          | (go_at_call 136; refine (bytes_any _ _).mono ?_; rw [HN.out]; rintro e w' ⟨rfl, rfl⟩)
          | (go_at_call 187; refine (is_any _ _ _ x1 x2).mono ?_; rintro e w' ⟨rfl, rfl⟩)
          | (go_at_call 77; refine (room_out B D S m _ _ _ hm hS a1 a2 hlo hhi hb0 (Or.inr HO.out)).mono ?_; rintro e w' ⟨rfl, rfl⟩))
        go_ret
        rw [HE.out, HV.out]
        exact ⟨rfl, hm, World.grownBy.refl _ _⟩
      · have HE : Hid (Mm.sE S k a x = 0) := Mm.sE_in hk h1 h2
        obtain ⟨ha, hs⟩ := Mm.has_in h2
        obtain ⟨A, rfl⟩ := Int.eq_ofNat_of_zero_le a1
        obtain ⟨n, hn⟩ : ∃ n : Nat, Wd.by' k = n := ⟨(Wd.by' k).toNat, by omega⟩
        have HV : Hid (Mm.sM S m k A x = Mm.pt m A n (Mm.by8 x)) := by
          show _ = _
          rw [Mm.sM_in hk h1 h2, hn, Int.toNat_natCast, Int.toNat_natCast]
        have hn8 : n = 1 ∨ n = 2 ∨ n = 4 ∨ n = 8 := by omega
        have HN : Hid (Wd.by' k = n) := hn
        have n0 : (((n : Nat) : Int) == 0) = false := by rw [hn] at hb0; exact hb0
        have npos : 0 < n := by omega
        have HS : Hid (A + n ≤ S) := (show A + n ≤ S from by omega)
        have H8 : Hid (n = 1 ∨ n = 2 ∨ n = 4 ∨ n = 8) := hn8
        clear hb hn hb0 hn8 hs h2 a1
        go_enter Tryz.func194, Tryz.ntmps194
        go_wp2_with (first
          | (go_at_call 136; refine (bytes_any _ _).mono ?_; rw [HN.out]; rintro e w' ⟨rfl, rfl⟩)
          | (go_at_call 187; refine (is_any _ _ _ x1 x2).mono ?_; rintro e w' ⟨rfl, rfl⟩)
          | (go_at_call 77; refine (room_in B D S m A n _ hm hS npos ha HS.out).mono ?_; rintro e w' ⟨rfl, rfl⟩)
          | (go_at_call 206; refine (lay_any D S A n n m x _ H8.out x1 x2 (Nat.le_refl _) HS.out hm.row).mono ?_; rintro e w2 ⟨rfl, hr2, hg2⟩))
        go_ret
        rw [HE.out, HV.out]
        exact ⟨rfl, hm.put hg2 (by decide) hr2 (Mm.pt_fit hm.fit (Mm.by8_fit x) _ _), hg2⟩

end Go.Proofs.YtdklaeppcjopoaaGreat

/- (*Mem).Get, Put: contracts. -/
namespace Go.Proofs.YtdklaeppcjopoaaGreat
open Go.RowKit
set_option linter.unusedVariables false

def bytesL (n : Nat) (g : Nat → Int) : List Value := (List.range n).map fun i => .int .u8 (g i)
theorem bytesL_len (n : Nat) (g : Nat → Int) : (bytesL n g).length = n := by simp [bytesL]
theorem bytesL_get {n : Nat} {g : Nat → Int} {j : Nat} {v : Value} (h : (bytesL n g)[j]? = some v) : j < n ∧ v = .int .u8 (g j) := by
  have hj : j < n := by
    rw [← bytesL_len n g]
    exact (List.getElem?_eq_some_iff.1 h).1
  refine ⟨hj, ?_⟩
  simp [bytesL, hj] at h
  exact h.symm
theorem bytesL_at {n : Nat} (g : Nat → Int) {j : Nat} (h : j < n) : (bytesL n g)[j]? = some (.int .u8 (g j)) := by simp [bytesL, h]
theorem bytesL_one (n : Nat) (g : Nat → Int) : ∀ v ∈ bytesL n g, v.oneCell' = true := by
  intro v hv
  obtain ⟨i, _, rfl⟩ := List.mem_map.1 hv
  rfl
theorem add_none (b off n : Nat) : (⟨b, off, none⟩ : Addr).add n = ⟨b, off + n, none⟩ := by
  unfold Addr.add; split <;> simp_all

/-- bytes that the call itself made -/
def OwnB (w : World) (base : Nat) (v : Value) (n : Nat) (g : Nat → Int) : Prop := w.ownsRow base 5 1 v n (bytesL n g)

theorem OwnB.kept {w w' : World} {base n : Nat} {v : Value} {g : Nat → Int} {row : Option Nat} (h : OwnB w base v n g) (hg : w.grownBy w' row) (hne : v.ownBlock = none ∨ v.ownBlock ≠ row) : OwnB w' base v n g := World.ownsRow.kept h hg hne
theorem OwnB.lt {w : World} {base n : Nat} {v : Value} {g : Nat → Int} (h : OwnB w base v n g) : ∀ k, v.ownBlock = some k → base ≤ k ∧ k < w.heap.size := World.ownsRow.lt h
theorem OwnB.shape {w : World} {base n : Nat} {v : Value} {g : Nat → Int} (h : OwnB w base v n g) : ∃ ao cap, v = .slice ao n cap ∧ (ao = none → n = 0 ∧ cap = 0) ∧ n ≤ cap ∧ cap ≤ maxLen ∧ Bs w ao n g := by
  obtain ⟨hl, h⟩ := h
  rcases h with ⟨rfl, rfl⟩ | ⟨b, cap, cur, rfl, hb, hh, hn, hc, hs, ht⟩
  · exact ⟨none, 0, rfl, fun _ => ⟨rfl, rfl⟩, Nat.le_refl _, by unfold maxLen; omega, .inl rfl⟩
  · refine ⟨some ⟨b, 0, none⟩, cap, rfl, (fun h => by cases h), hn, hc, .inr ⟨b, 0, rfl, fun i hi => ?_⟩⟩
    have h1 : (bytesL n g)[i]? = some (.int .u8 (g i)) := bytesL_at g hi
    rw [← ht, List.getElem?_take, if_pos (by omega)] at h1
    simp only [World.cell?, hh]
    simpa using h1

theorem info1 : (Tryz.prog.info? 5).map (·.size) = some 1 := by kernel_rfl

/-- copy of bytes into a row of the call's own -/
theorem run_copy_bytes {w : World} (D S off n dc b o' cap : Nat) (m g : Nat → Int) (hr : w.rowIs D 5 S (fun i => .int .u8 (m i))) (hfit : off + n ≤ S)
    (hc : ∀ i, i < n → w.cell? ⟨b, o' + i, none⟩ = some (.int .u8 (g i))) :
    ∃ w', (Builtin.copy_ #[24, 24] 3 #[.slice (some ⟨D, off, none⟩) n dc, .slice (some ⟨b, o', none⟩) n cap]).run Tryz.prog w = .ok (goInt n) w' ∧
      w'.rowIs D 5 S (fun i => .int .u8 (Mm.pt m off n g i)) ∧ w.grownBy w' (some D) := by
  obtain ⟨cur, hcur, hsz, hcc⟩ := hr
  have hrun := run_copy_row (P := Tryz.prog) w 24 24 3 5 D off n dc ⟨b, o', none⟩ n cap cur 5 (bytesL n g) Tryz.underlying24 info1 hcur (by rw [bytesL_len]; simp) (by
    intro j v hv
    obtain ⟨hj, rfl⟩ := bytesL_get hv
    rw [add_none]
    exact hc j hj) (by rw [bytesL_len]; omega) (bytesL_one n g)
  rw [bytesL_len] at hrun
  · refine ⟨_, hrun, ⟨_, setRow_heap w D _ _ _ _ hcur, ?_, ?_⟩, ⟨rfl, rfl, rfl, by simp [World.setRow], fun k hk hk2 => setRow_other w D k _ (fun e => hk2 (by rw [e]))⟩⟩
    · simp [bytesL_len]; omega
    · intro i hi
      have hci := hcc i hi
      simp only [List.getElem?_toArray, List.append_assoc]
      by_cases h1 : i < off
      · rw [List.getElem?_append_left (by simp; omega), List.getElem?_take, if_pos h1, Mm.pt_out (by omega)]
        simpa using hci
      · rw [List.getElem?_append_right (by simp; omega)]
        have hlen : (cur.toList.take off).length = off := by simp; omega
        rw [hlen]
        by_cases h2 : i < off + n
        · rw [List.getElem?_append_left (by rw [bytesL_len]; omega), bytesL_at g (by omega)]
          unfold Mm.pt; rw [if_pos (by omega)]
        · rw [List.getElem?_append_right (by rw [bytesL_len]; omega), bytesL_len, List.getElem?_drop, Mm.pt_out (by omega), show off + n + (i - off - n) = i by omega]
          simpa using hci

set_option maxRecDepth 40000 in
set_option maxHeartbeats 800000 in
theorem put_in (B D S n cap b o' : Nat) (m g : Nat → Int) (a : Nat) (w : World) (hm : IsM w B D S m) (hS : (S : Int) ≤ 1048576) (hn : 0 < n) (h1 : (4096 : Int) ≤ a) (h2 : a + n ≤ S) (hg : Mm.Fit g)
    (hc : ∀ i, i < n → w.cell? ⟨b, o' + i, none⟩ = some (.int .u8 (g i))) :
    Calls Tryz.prog 48 #[.pointer (some ⟨B, 0, none⟩), .int .u64 a, .slice (some ⟨b, o', none⟩) n cap] w fun e w' => e = .returned (.int .i64 0) ∧ IsM w' B D S (Mm.pt m a n g) ∧ w.grownBy w' (some D) := by
  have HC : Hid (∀ i, i < n → w.cell? ⟨b, o' + i, none⟩ = some (.int .u8 (g i))) := hc
  clear hc
  obtain ⟨w2, hrun, hr2, hg2⟩ := run_copy_bytes D S a n n b o' cap m g hm.row h2 HC.out
  go_enter Tryz.func48, Tryz.ntmps48
  go_wp2_with (go_at_call 77; refine (room_in B D S m a n _ hm hS hn h1 h2).mono ?_; rintro e w' ⟨rfl, rfl⟩)
  go_ret
  exact ⟨rfl, hm.put hg2 (by decide) hr2 (Mm.pt_fit hm.fit hg _ _), hg2⟩

set_option maxHeartbeats 800000 in
theorem put_none (B D S : Nat) (cap : Nat) (ao : Option Addr) (m : Nat → Int) (a : Int) (w : World) (hm : IsM w B D S m) :
    Calls Tryz.prog 48 #[.pointer (some ⟨B, 0, none⟩), .int .u64 a, .slice ao 0 cap] w fun e w' => e = .returned (.int .i64 0) ∧ w' = w := by
  have hrun := run_copy_none (P := Tryz.prog) w 24 24 3 5 none ao 0 0 0 cap Tryz.underlying24 info1 rfl
  go_enter Tryz.func48, Tryz.ntmps48
  go_wp2_with (go_at_call 77; refine (room_none B D S m a _ hm).mono ?_; rintro e w' ⟨rfl, rfl⟩)
  go_ret
  exact ⟨rfl, rfl⟩

end Go.Proofs.YtdklaeppcjopoaaGreat

/- (*Mem).Get; gantryref0.EqBytes, CopyBytes; gantrylaw0.Bytes: contracts. -/
namespace Go.Proofs.YtdklaeppcjopoaaGreat
open Go.RowKit
set_option linter.unusedVariables false

theorem grown_two {w w1 w2 : World} {b : Nat} (hg1 : w.grownBy w1 none) (hg2 : w1.grownBy w2 (some b)) (hb : w.heap.size ≤ b) : w.grownBy w2 none := by
  refine ⟨hg2.os.trans hg1.os, hg2.tape.trans hg1.tape, hg2.output.trans hg1.output, Nat.le_trans hg1.size hg2.size, fun k hk _ => ?_⟩
  have hne : some k ≠ some b := by intro e; injection e with e; omega
  exact (hg2.block k (Nat.lt_of_lt_of_le hk hg1.size) hne).trans (hg1.block k hk (by simp))

theorem Bs.at {w : World} {ao : Option Addr} {n : Nat} {g : Nat → Int} (h : Bs w ao n g) (hn : 0 < n) : ∃ b off, ao = some ⟨b, off, none⟩ ∧ ∀ i, i < n → w.cell? ⟨b, off + i, none⟩ = some (.int .u8 (g i)) := by
  rcases h with h | h
  · omega
  · exact h

set_option maxHeartbeats 800000 in
theorem eq_true (n ca cb b o b' o' : Nat) (g g' : Nat → Int) (w : World) (hn : (n : Int) ≤ 140737488351232)
    (ha : ∀ i, i < n → w.cell? ⟨b, o + i, none⟩ = some (.int .u8 (g i))) (hb : ∀ i, i < n → w.cell? ⟨b', o' + i, none⟩ = some (.int .u8 (g' i))) (he : ∀ i, i < n → g i = g' i) :
    Calls Tryz.prog 36 #[.slice (some ⟨b, o, none⟩) n ca, .slice (some ⟨b', o', none⟩) n cb] w fun e w' => e = .returned (.bool true) ∧ ∃ d, w' = w.drewN d := by
  have HA : Hid (∀ i, i < n → w.cell? ⟨b, o + i, none⟩ = some (.int .u8 (g i))) := ha
  have HB : Hid (∀ i, i < n → w.cell? ⟨b', o' + i, none⟩ = some (.int .u8 (g' i))) := hb
  have HE : Hid (∀ i, i < n → g i = g' i) := he
  clear ha hb he
  go_enter Tryz.func36, Tryz.ntmps36
  go_wp2
  go_loopw [5] (fun s wr => ∃ k : Nat, k ≤ n ∧ s = .int .i64 k ∧ ∃ d, wr = w.drewN d) (fun s _ => n - (intOf s).toNat)
  case atStart => exact ⟨0, Nat.zero_le _, rfl, 0, rfl⟩
  case round =>
    obtain ⟨k, hk, rfl, d, rfl⟩ := hrel
    by_cases hlt : k < n
    · have c1 : (w.drewN d).cell? ⟨b, o + k, none⟩ = some (.int .u8 (g k)) := HA.out k hlt
      have c2 : (w.drewN d).cell? ⟨b', o' + k, none⟩ = some (.int .u8 (g k)) := by rw [HE.out k hlt]; exact HB.out k hlt
      have HW : Hid (∃ d', w.drewN d = w.drewN d') := ⟨d, rfl⟩
      have hlt' : (k : Int) < (n : Int) := by omega
      generalize w.drewN d = W at *
      generalize g k = y at *
      go_wp2_with fail
      go_quiet (fail)
      go_wp2
      go_roundw
      case rel => obtain ⟨d', rfl⟩ := HW.out; exact ⟨k + 1, by omega, by go_num, _, World.drewN_drewN _ _ _⟩
      case measure => simp [intOf]; omega
    · obtain rfl : k = n := by omega
      go_wp2
      go_ret
      exact ⟨rfl, d, rfl⟩

/-- are two rows of bytes the same? -/
def eqF (n : Nat) (g g' : Nat → Int) : Bool := decide (∀ i, i < n → g i = g' i)
theorem eqF_true {n : Nat} {g g' : Nat → Int} (h : ∀ i, i < n → g i = g' i) : eqF n g g' = true := decide_eq_true h
theorem eqF_false {n : Nat} {g g' : Nat → Int} {i : Nat} (hi : i < n) (h : g i ≠ g' i) : eqF n g g' = false := decide_eq_false fun a => h (a i hi)

set_option maxRecDepth 100000 in
set_option maxHeartbeats 800000 in
theorem copyB (n cap : Nat) (ao : Option Addr) (g : Nat → Int) (w : World) (hn : (n : Int) ≤ 140737488351232) (h0 : ao = none → n = 0 ∧ cap = 0) (ha : Bs w ao n g) :
    Calls Tryz.prog 58 #[.slice ao n cap] w fun e w' => ∃ v, e = .returned v ∧ OwnB w' w.heap.size v n g ∧ w.grownBy w' none := by
  obtain ⟨i, hi, hz0, hz1, hz2⟩ := info_parts info_u8
  cases ao with
  | none =>
    obtain ⟨rfl, rfl⟩ := h0 rfl
    go_enter Tryz.func58, Tryz.ntmps58
    go_wp2_with (at_builtin; refine wpList_append_own_none rfl _ _ 24 rfl w.heap.size 5 i 1 Tryz.underlying24 hi _ 0 [] rfl (World.ownsRow_nil _ _ _ _) rfl ?_)
    go_ret
    exact ⟨_, rfl, World.ownsRow_nil _ _ _ _, World.grownBy.refl _ _⟩
  | some ad =>
    have HC : Hid (∀ j u, (bytesL n g)[j]? = some u → w.cell? (ad.add j) = some u) := by
      intro j u hu
      obtain ⟨hj, rfl⟩ := bytesL_get hu
      obtain ⟨b, o, e, hc⟩ := ha.at (by omega)
      injection e with e
      subst e
      rw [add_none]
      exact hc j hj
    clear ha h0
    go_enter Tryz.func58, Tryz.ntmps58
    go_wp2_with (at_builtin; refine wpList_append_own _ rfl _ _ 24 rfl w.heap.size 5 i (.int .u8 0) 1 1 Tryz.underlying24 hi hz0 hz1 hz2 rfl (by decide) _ 0 [] rfl (World.ownsRow_nil _ _ _ _) ad n cap (bytesL n g) rfl (by rw [bytesL_len]; omega) HC.out (bytesL_one _ _) (by unfold maxLen; omega) (by omega) (Nat.le_refl _) ?_; intro v' w2 ho2 hg2 hv2; simp only [Nat.zero_add, List.nil_append] at ho2)
    go_ret
    exact ⟨_, rfl, ho2, hg2⟩

end Go.Proofs.YtdklaeppcjopoaaGreat

/- form.bytes, gantryref3.Encode: contracts. -/
namespace Go.Proofs.YtdklaeppcjopoaaGreat
open Go.RowKit
set_option linter.unusedVariables false

namespace Rc
/-- a form's bytes -/
def fb (f : FmV) (i : Nat) : Int :=
  if i = 0 then f.code % 256 else if i = 1 then f.a % 256 else if i = 2 then f.b % 256 else if i = 3 then f.c % 256 else Mm.by8 f.n (i - 4)
end Rc
theorem size_alloc (w : World) (o : Obj) : (w.alloc o).heap.size = w.heap.size + 1 := by simp

end Go.Proofs.YtdklaeppcjopoaaGreat

/- A region that draws its order, whose head only reads and whose tail is forced: one walk by the cheap step. -/
namespace Go.Proofs.YtdklaeppcjopoaaGreat
open Go.RowKit
set_option linter.unusedVariables false

theorem still_of_quiet {P : Program} {ops : Array Oper} {w : World} {Q : Act → Prop} : ∀ (l : List Oper) (a : Act), wpQuiet P ops (fun w' => w' = w) Q l a → wpStill P ops w Q l a
  | [], _, h => h
  | o :: rest, a, h => by
    unfold wpQuiet at h
    unfold wpStill
    split
    · rename_i hw
      rw [if_pos hw] at h
      obtain ⟨v, h1, h2⟩ := h
      have h3 := h1 w rfl
      have h4 := still_of_quiet rest _ h2
      unfold Oper.quietAt at h3
      unfold Oper.still
      generalize (execOp a.eval o).run P w = r at h3
      match r, h3 with
      | .ok (.value u) w', h3 => obtain ⟨e1, e2⟩ := h3; exact ⟨e1, by rw [e2]; exact h4⟩
      | .ok .skip w', h3 => obtain ⟨e1, e2⟩ := h3; exact ⟨e1, by rw [← e2]; exact h4⟩
      | .ok (.enter f args) w', h3 => obtain ⟨e1, e2⟩ := h3; exact ⟨e1, v, e2, h4⟩
    · rename_i hw
      rw [if_neg hw] at h
      exact still_of_quiet rest _ h

theorem tail_quiet {P : Program} {id : Nat} {Q : Exit → Act → World → Prop} {a : Act} {w : World} {l : List Oper} (n : Nat) (hm : P.follows .mixedOrders = true) (hB : Region.lexTailB .any l.toArray n = true)
    (h : wpQuiet P l.toArray (fun w' => w' = w.drew) (fun a' => wpList P l.toArray Q (l.drop n) a' w.drew) (l.take n) a) : (Code.region id l.toArray true).wp P Q a w :=
  tail_drew n hm hB (still_of_quiet _ _ h)

/-- a world that has grown out of W -/
structure Gw (W : World) where
  w : World
  h : W.grownBy w none

/-- A region that draws its order, whose operations read what stood in W or call what only makes new memory: one walk of the lexical order. -/
theorem region_grown {P : Program} {id : Nat} {Q : Exit → Act → World → Prop} {a : Act} {w : World} {l : List Oper} (hm : P.follows .mixedOrders = true) (hB : Region.lexB .any l.toArray = true)
    (h : wpQuiet P l.toArray (fun w' => ∃ x : Gw w, w' = x.w) (fun a' => ∀ w', (∃ x : Gw w, w' = x.w) → Q .normal a' w') l a) : (Code.region id l.toArray true).wp P Q a w :=
  wp_region_quiet (C := fun w' => ∃ x : Gw w, w' = x.w) hm hB ⟨⟨w.drew, grown_drew (World.grownBy.refl _ _)⟩, rfl⟩ (by simpa using h)
theorem Gw.call {P : Program} {f : FuncId} {args : Array Value} {W : World} {x : Gw W} {v : Value}
    (h : Calls P f args x.w fun e w' => e = .returned v ∧ x.w.grownBy w' none) : Calls P f args x.w fun e w'' => e = .returned v ∧ ∃ y : Gw W, w'' = y.w :=
  h.mono fun _ w'' ⟨he, hg⟩ => ⟨he, ⟨w'', grown_trans x.h hg⟩, rfl⟩

end Go.Proofs.YtdklaeppcjopoaaGreat

/- risc.formOf: its contract. -/
namespace Go.Proofs.YtdklaeppcjopoaaGreat
open Go.RowKit
set_option linter.unusedVariables false

namespace Rc
def fo (g : Nat → Int) : FmV := ⟨g 0, g 1, g 2, g 3, s32 (Mm.ld g 4 4)⟩
theorem s32_rng (u : Int) : -2147483648 ≤ s32 u ∧ s32 u < 2147483648 := by unfold s32; omega
theorem u32_ld {g : Nat → Int} (hg : Mm.Fit g) : bits .or .u32 (bits .or .u32 (bits .or .u32 (g 4 % 4294967296) (g 5 % 4294967296 * 256 % 4294967296)) (g 6 % 4294967296 * 65536 % 4294967296)) (g 7 % 4294967296 * 16777216 % 4294967296) = Mm.ld g 4 4 := by
  have h4 := hg 4
  have h5 := hg 5
  have h6 := hg 6
  have h7 := hg 7
  have e : Mm.ld g 4 4 = g 4 + g 5 * 2 ^ 8 + g 6 * 2 ^ 16 + g 7 * 2 ^ 24 := by
    show 0 + g 4 * 1 + g 5 * 256 + g 6 * 65536 + g 7 * 16777216 = _
    omega
  rw [e, show g 4 % 4294967296 = g 4 by omega, show g 5 % 4294967296 * 256 % 4294967296 = g 5 * 2 ^ 8 by omega, show g 6 % 4294967296 * 65536 % 4294967296 = g 6 * 2 ^ 16 by omega, show g 7 % 4294967296 * 16777216 % 4294967296 = g 7 * 2 ^ 24 by omega]
  have b : ((2 : Int) ^ IntKind.u32.bits) = 4294967296 := rfl
  have o1 : bits .or .u32 (g 4) (g 5 * 2 ^ 8) = g 4 + g 5 * 2 ^ 8 := Mm.or_high rfl (by omega) (by omega) (by omega) (by omega)
  have o2 : bits .or .u32 (g 4 + g 5 * 2 ^ 8) (g 6 * 2 ^ 16) = g 4 + g 5 * 2 ^ 8 + g 6 * 2 ^ 16 := Mm.or_high rfl (by omega) (by omega) (by omega) (by omega)
  have o3 : bits .or .u32 (g 4 + g 5 * 2 ^ 8 + g 6 * 2 ^ 16) (g 7 * 2 ^ 24) = g 4 + g 5 * 2 ^ 8 + g 6 * 2 ^ 16 + g 7 * 2 ^ 24 := Mm.or_high rfl (by omega) (by omega) (by omega) (by omega)
  rw [o1, o2, o3]
end Rc

theorem wrap64_byte {x : Int} (h1 : 0 ≤ x) (h2 : x < 256) : wrap64 x = x := by unfold wrap64; omega
theorem wrap_s32 (x : Int) : wrap64 (wrap32 x) = Rc.s32 x := by unfold wrap64 wrap32 Rc.s32; omega

set_option maxHeartbeats 8000000 in
theorem formOf_any (b off n cap : Nat) (g : Nat → Int) (w : World) (hn : 8 ≤ n) (hnc : n ≤ cap) (hg : Mm.Fit g) (hc : ∀ i, i < n → w.cell? ⟨b, off + i, none⟩ = some (.int .u8 (g i))) :
    Calls Tryz.prog 172 #[.slice (some ⟨b, off, none⟩) n cap] w fun e w' => e = .returned (formv (Rc.fo g)) ∧ w.grownBy w' none := by
  have hi : ∀ j : Int, j < 8 → j < (n : Int) := fun j h => by omega
  have l0 := hi 0 (by decide)
  have l1 := hi 1 (by decide)
  have l2 := hi 2 (by decide)
  have l3 := hi 3 (by decide)
  have l4 := hi 4 (by decide)
  have l5 := hi 5 (by decide)
  have l6 := hi 6 (by decide)
  have l7 := hi 7 (by decide)
  have c0 : w.cell? ⟨b, off, none⟩ = some (.int .u8 (g 0)) := hc 0 (by omega)
  have c1 := hc 1 (by omega)
  have c2 := hc 2 (by omega)
  have c3 := hc 3 (by omega)
  have c4 := hc 4 (by omega)
  have c5 := hc 5 (by omega)
  have c6 := hc 6 (by omega)
  have c7 := hc 7 (by omega)
  have d0 : (w.alloc (Obj.cells #[.int .i64 0, .int .i64 0, .int .i64 0, .int .i64 0, .int .i64 0] 228)).cell? ⟨b, off, none⟩ = some (.int .u8 (g 0)) := (World.grownBy_alloc w (Obj.cells #[.int .i64 0, .int .i64 0, .int .i64 0, .int .i64 0, .int .i64 0] 228) none).cell c0 (by simp)
  have d1 : (w.alloc (Obj.cells #[.int .i64 0, .int .i64 0, .int .i64 0, .int .i64 0, .int .i64 0] 228)).cell? ⟨b, off + 1, none⟩ = some (.int .u8 (g 1)) := (World.grownBy_alloc w (Obj.cells #[.int .i64 0, .int .i64 0, .int .i64 0, .int .i64 0, .int .i64 0] 228) none).cell c1 (by simp)
  have d2 : (w.alloc (Obj.cells #[.int .i64 0, .int .i64 0, .int .i64 0, .int .i64 0, .int .i64 0] 228)).cell? ⟨b, off + 2, none⟩ = some (.int .u8 (g 2)) := (World.grownBy_alloc w (Obj.cells #[.int .i64 0, .int .i64 0, .int .i64 0, .int .i64 0, .int .i64 0] 228) none).cell c2 (by simp)
  have d3 : (w.alloc (Obj.cells #[.int .i64 0, .int .i64 0, .int .i64 0, .int .i64 0, .int .i64 0] 228)).cell? ⟨b, off + 3, none⟩ = some (.int .u8 (g 3)) := (World.grownBy_alloc w (Obj.cells #[.int .i64 0, .int .i64 0, .int .i64 0, .int .i64 0, .int .i64 0] 228) none).cell c3 (by simp)
  have d4 : (w.alloc (Obj.cells #[.int .i64 0, .int .i64 0, .int .i64 0, .int .i64 0, .int .i64 0] 228)).cell? ⟨b, off + 4, none⟩ = some (.int .u8 (g 4)) := (World.grownBy_alloc w (Obj.cells #[.int .i64 0, .int .i64 0, .int .i64 0, .int .i64 0, .int .i64 0] 228) none).cell c4 (by simp)
  have d5 : (w.alloc (Obj.cells #[.int .i64 0, .int .i64 0, .int .i64 0, .int .i64 0, .int .i64 0] 228)).cell? ⟨b, off + 5, none⟩ = some (.int .u8 (g 5)) := (World.grownBy_alloc w (Obj.cells #[.int .i64 0, .int .i64 0, .int .i64 0, .int .i64 0, .int .i64 0] 228) none).cell c5 (by simp)
  have d6 : (w.alloc (Obj.cells #[.int .i64 0, .int .i64 0, .int .i64 0, .int .i64 0, .int .i64 0] 228)).cell? ⟨b, off + 6, none⟩ = some (.int .u8 (g 6)) := (World.grownBy_alloc w (Obj.cells #[.int .i64 0, .int .i64 0, .int .i64 0, .int .i64 0, .int .i64 0] 228) none).cell c6 (by simp)
  have d7 : (w.alloc (Obj.cells #[.int .i64 0, .int .i64 0, .int .i64 0, .int .i64 0, .int .i64 0] 228)).cell? ⟨b, off + 7, none⟩ = some (.int .u8 (g 7)) := (World.grownBy_alloc w (Obj.cells #[.int .i64 0, .int .i64 0, .int .i64 0, .int .i64 0, .int .i64 0] 228) none).cell c7 (by simp)
  clear hi hc
  go_enter Tryz.func172, Tryz.ntmps172
  go_wp2_with fail
  go_quiet (fail)
  rw [Rc.u32_ld hg]
  go_wp2_with fail
  refine tail_quiet 20 (by kernel_rfl) (by kernel_rfl) ?_
  simp only [List.take_succ_cons, List.take_zero, List.drop_succ_cons, List.drop_zero]
  repeat (go_big_quiet_step (fail))
  refine wpQuiet_nil ?_
  go_wp2
  go_returns
  obtain ⟨g0, g0'⟩ := hg 0
  obtain ⟨g1, g1'⟩ := hg 1
  obtain ⟨g2, g2'⟩ := hg 2
  obtain ⟨g3, g3'⟩ := hg 3
  refine ⟨?_, ?_⟩
  · unfold formv Rc.fo
    dsimp only
    rw [wrap64_byte g0 g0', wrap64_byte g1 g1', wrap64_byte g2 g2', wrap64_byte g3 g3', wrap_s32]
  · exact grown_two (grown_drewN (World.grownBy_alloc _ _ _) _) (grown_trans (grown_trans (grown_trans (grown_trans (grown_setCell _ _ _ _) (grown_setCell _ _ _ _)) (grown_setCell _ _ _ _)) (grown_setCell _ _ _ _)) (grown_setCell _ _ _ _)) (Nat.le_refl _)

end Go.Proofs.YtdklaeppcjopoaaGreat

/- What eight bytes are told to be: plain; and how worlds grow. -/
namespace Go.Proofs.YtdklaeppcjopoaaGreat
open Go.RowKit
set_option linter.unusedVariables false

theorem ga {w w1 : World} (h : w.grownBy w1 none) (o : Obj) : w.grownBy (w1.alloc o) none := grown_trans h (World.grownBy_alloc _ _ _)
theorem gs {w w1 : World} (h : w.grownBy w1 none) {b : Nat} (i : Nat) (v : Value) (hb : w.heap.size ≤ b) : w.grownBy (w1.setCell ⟨b, i, none⟩ v) none := grown_two h (grown_setCell _ _ _ _) hb
def zeroI : InV := ⟨0, 0, 0, 0, 0, 0, 0, 0, 0⟩
namespace Rc
/-- what eight bytes are told to be -/
def dv (g : Nat → Int) : InV := if okB g then rd g else zeroI
def de (g : Nat → Int) : Int := if okB g then 0 else 30
theorem dv_ok {g : Nat → Int} (h : okB g = true) : dv g = rd g := by unfold dv; rw [if_pos h]
theorem de_ok {g : Nat → Int} (h : okB g = true) : de g = 0 := by unfold de; rw [if_pos h]
theorem de_no {g : Nat → Int} (h : okB g = false) : de g = 30 := by unfold de; rw [if_neg (by simp [h])]
theorem rd_1 {g : Nat → Int} (h : g 0 = 4 ∨ g 0 = 7 ∨ g 0 = 8) : rd g = ⟨g 0, g 1, g 2, g 3, s32 (Mm.ld g 4 4) % 256, s32 (Mm.ld g 4 4) / 256, 0, 0, 0⟩ := by unfold rd; rw [if_pos h]
theorem rd_2 {g : Nat → Int} (h : g 0 = 11 ∨ g 0 = 13) : rd g = ⟨g 0, g 1, g 2, 0, g 3, 0, 0, s32 (Mm.ld g 4 4), 0⟩ := by unfold rd; rw [if_neg (by omega), if_pos h]
theorem rd_3 {g : Nat → Int} (h : ¬ (g 0 = 4 ∨ g 0 = 7 ∨ g 0 = 8)) (h' : ¬ (g 0 = 11 ∨ g 0 = 13)) : rd g = ⟨g 0, g 1, g 2, g 3, 0, 0, 0, s32 (Mm.ld g 4 4), 0⟩ := by unfold rd; rw [if_neg h, if_neg h']
end Rc

end Go.Proofs.YtdklaeppcjopoaaGreat

/- The machine of layer 5 as plain functions: registers, place, heap, flags, memory, what was told, the end; one step. -/
namespace Go.Proofs.YtdklaeppcjopoaaGreat
open Go.RowKit
set_option linter.unusedVariables false

namespace Ru
/-- a machine as it stands -/
structure St where
  r : Nat → Int
  pl : Int
  hp : Int
  k : Int
  x : Int
  y : Int
  m : Nat → Int
  out : List Int
  e : Int
  n : Int
/-- what it runs: the target, the code's bytes, the memory's size -/
structure Im where
  t : Int
  N : Nat
  g : Nat → Int
  S : Nat
def wr (x : Int) : Int := x % 18446744073709551616
def Im.lim (I : Im) : Int := I.S - 4096
def St.reg (s : St) (a : Int) : Int := s.r a.toNat
def St.put (s : St) (a x : Int) : St := { s with r := fun i => if i = a.toNat then x else s.r i }
/-- the first end stays -/
def St.stop (s : St) (e n : Int) : St := if s.e = 0 then { s with e := e, n := n } else s
def St.set (s : St) (a x e : Int) : St := if e = 0 then s.put a x else s.stop 5 0
/-- can the flags be asked? what do they say? -/
def St.okF (s : St) (sub : Int) : Bool := s.k != 0 && (Fl.binA sub s.k s.x s.y).2 == 0
def St.says (s : St) (sub : Int) : Bool := s.okF sub && (Fl.binA sub s.k s.x s.y).1 == 1
def St.ask (s : St) (sub : Int) : St := if s.okF sub then s else s.stop 5 0
def ky (sub k : Int) : Int := if Wd.shB sub then 9 else k
/-- an operation of two words as they stand -/
def St.bin (s : St) (t a sub k x y : Int) : St :=
  if t = 2 ∧ Wd.intB k = true ∧ (sub = 4 ∨ sub = 5) then
    (s.set 2 (Fl.binA (9 - sub) k (Wd.canon k x) (Wd.canon (ky sub k) y)).1 (Fl.binA sub k (Wd.canon k x) (Wd.canon (ky sub k) y)).2).set a (Fl.binA sub k (Wd.canon k x) (Wd.canon (ky sub k) y)).1 (Fl.binA sub k (Wd.canon k x) (Wd.canon (ky sub k) y)).2
  else s.set a (Fl.binA sub k (Wd.canon k x) (Wd.canon (ky sub k) y)).1 (Fl.binA sub k (Wd.canon k x) (Wd.canon (ky sub k) y)).2
def St.adr (s : St) (v : InV) : Int := wr (s.reg v.b + s.reg v.c * v.scale + v.imm)
/-- a word laid down -/
def St.lay (s : St) (S : Nat) (a k x : Int) : St :=
  if Mm.lE S k a = 0 then { s with m := Mm.pt s.m a.toNat (Wd.by' k).toNat (Mm.by8 (Wd.canon k x)) } else s.stop 5 0
def up (n : Int) : Int := (n + 7) / 8 * 8
def St.alloc (s : St) (I : Im) (a n : Int) : St :=
  if 1048576 < n then s.stop 4 0
  else if I.lim < s.hp + (if up n = 0 then 8 else up n) then s.stop 4 0
  else { s.put a s.hp with hp := s.hp + (if up n = 0 then 8 else up n) }
def St.goto (s : St) (p : Int) : St := { s with pl := Wd.sg p }
def St.call (s : St) (I : Im) (n : Int) : St :=
  if wr (s.reg 15 - 8) < I.lim then (s.put 15 (wr (s.reg 15 - 8))).stop 4 0
  else let s1 := (s.put 15 (wr (s.reg 15 - 8))).lay I.S (wr (s.reg 15 - 8)) 9 (wr s.pl); s1.goto (s1.pl + n)
def St.ret (s : St) (I : Im) : St :=
  if Mm.lE I.S 9 (s.reg 15) = 0 then (s.put 15 (wr (s.reg 15 + 8))).goto (Mm.lV I.S s.m 9 (s.reg 15)) else s.stop 5 0
def St.flg (s : St) (k x y : Int) : St := { s with k := k, x := Wd.canon k x, y := Wd.canon k y }
/-- what an instruction does -/
def exec (I : Im) (v : InV) (s : St) : St :=
  if v.op = 1 then s.put v.a (wr v.imm)
  else if v.op = 2 then s.put v.a (s.reg v.a % 4294967296 + v.imm % 4294967296 * 4294967296)
  else if v.op = 3 then s.put v.a (s.reg v.b)
  else if v.op = 4 then (if I.t = 2 then s.bin I.t v.a v.sub v.k (s.reg v.a) (s.reg v.b) else s.bin I.t v.a v.sub v.k (s.reg v.b) (s.reg v.c))
  else if v.op = 5 then s.bin I.t v.a v.sub v.k (s.reg v.a) (wr v.imm)
  else if v.op = 6 then (if Mm.lE I.S v.k (s.adr v) = 0 then s.bin I.t v.a v.sub v.k (s.reg v.a) (Mm.lV I.S s.m v.k (s.adr v)) else s.stop 5 0)
  else if v.op = 7 then s.set v.a (Wd.unI v.sub v.k (Wd.canon v.k (s.reg (if I.t = 2 then v.a else v.b)))).1 (Wd.unI v.sub v.k (Wd.canon v.k (s.reg (if I.t = 2 then v.a else v.b)))).2
  else if v.op = 8 then s.set v.a (Fl.convA v.sub v.k (Wd.canon v.sub (s.reg v.b))).1 (Fl.convA v.sub v.k (Wd.canon v.sub (s.reg v.b))).2
  else if v.op = 9 ∨ v.op = 10 then s.put v.a (s.adr v)
  else if v.op = 11 ∨ v.op = 12 then s.set v.a (Mm.lV I.S s.m v.k (s.adr v)) (Mm.lE I.S v.k (s.adr v))
  else if v.op = 13 ∨ v.op = 14 then s.lay I.S (s.adr v) v.k (s.reg v.a)
  else if v.op = 15 then
    (if I.t = 2 then (if s.says v.sub then s.put v.a (s.reg v.b) else s.ask v.sub)
     else s.put v.a (if s.reg v.b = 0 then s.reg v.imm else s.reg v.c))
  else if v.op = 16 then s.flg v.k (s.reg v.a) (s.reg v.b)
  else if v.op = 17 then s.flg v.k (s.reg v.a) (wr v.imm)
  else if v.op = 18 then (if s.okF v.sub then s.put v.a (if s.says v.sub then 1 else 0) else s.stop 5 0)
  else if v.op = 19 then s.goto (s.pl + v.imm)
  else if v.op = 20 then (if s.reg v.a = 0 then s else s.goto (s.pl + v.imm))
  else if v.op = 21 then (if s.reg v.a = 0 then s.goto (s.pl + v.imm) else s)
  else if v.op = 22 then (if s.says v.sub then s.goto (s.pl + v.imm) else s.ask v.sub)
  else if v.op = 23 then s.call I v.imm
  else if v.op = 24 then s.ret I
  else if v.op = 25 then (if s.reg 15 < wr (I.lim + v.imm) then s.stop 4 0 else s)
  else if v.op = 26 then s.alloc I v.a (s.reg v.b)
  else if v.op = 27 then { s with out := s.out ++ [s.reg v.a] }
  else if v.op = 28 then s.stop 1 (Wd.sg (s.reg v.a))
  else if v.op = 29 then s.stop 2 v.imm
  else s
def sh (g : Nat → Int) (p : Nat) : Nat → Int := fun i => g (p + i)
/-- the instruction at the place, its bytes, whether there is one -/
def next (I : Im) (p : Int) : InV × Int × Bool :=
  if p < 0 ∨ (I.N : Int) < p then (Cc.zero, 0, false)
  else if I.t = 1 then (if (I.N : Int) - p < 8 then (Cc.zero, 8, false) else (Rc.dv (sh I.g p.toNat), 8, Rc.de (sh I.g p.toNat) == 0))
  else ((Cc.dec (I.N - p.toNat) (sh I.g p.toNat)).1, (Cc.dec (I.N - p.toNat) (sh I.g p.toNat)).2.1, (Cc.dec (I.N - p.toNat) (sh I.g p.toNat)).2.2 == 0)
def step (I : Im) (s : St) : St :=
  if s.e = 0 then (if (next I s.pl).2.2 then exec I (next I s.pl).1 (s.goto (s.pl + (next I s.pl).2.1)) else s.stop 5 0) else s
end Ru
end Go.Proofs.YtdklaeppcjopoaaGreat

/- What holds of every machine as plain functions. -/
namespace Go.Proofs.YtdklaeppcjopoaaGreat
open Go.RowKit
set_option linter.unusedVariables false

namespace Ru
def W64 (x : Int) : Prop := 0 ≤ x ∧ x < 18446744073709551616
structure St.Ok (s : St) : Prop where
  r : ∀ i, W64 (s.r i)
  hp : 0 ≤ s.hp ∧ s.hp ≤ 1048600
  x : W64 s.x
  y : W64 s.y
  pl : -9223372036854775808 ≤ s.pl ∧ s.pl ≤ 9223372036854775807
  fit : Mm.Fit s.m
theorem wr_w (x : Int) : W64 (wr x) := by unfold wr W64; omega
theorem sg_b (x : Int) : -9223372036854775808 ≤ Wd.sg x ∧ Wd.sg x ≤ 9223372036854775807 := by unfold Wd.sg; omega
theorem St.Ok.put {s : St} (h : s.Ok) (a : Int) {x : Int} (hx : W64 x) : (s.put a x).Ok := ⟨fun i => by show W64 (if i = a.toNat then x else s.r i); split; (· exact hx); exact h.r i, h.hp, h.x, h.y, h.pl, h.fit⟩
end Ru
theorem row_apart {w : World} {b b' : Nat} {t t' : TypeId} {n n' : Nat} {f f' : Nat → Value} (h : w.rowIs b t n f) (h' : w.rowIs b' t' n' f') (ht : t ≠ t') : b ≠ b' := by
  rintro rfl
  obtain ⟨c, h1, _⟩ := h
  obtain ⟨c', h2, _⟩ := h'
  rw [h1] at h2
  injection h2 with h2
  injection h2 with _ h2
  exact ht h2

end Go.Proofs.YtdklaeppcjopoaaGreat

/- A region that draws its order: its head is quiet over a class of worlds and its tail forced; or one of its calls panics, whatever came ahead of it. -/
namespace Go.Proofs.YtdklaeppcjopoaaGreat
open Go.RowKit
set_option linter.unusedVariables false

section
variable {P : Program} {ops : Array Oper} {md : Region.Mode} {C : World → Prop}

/-- from here on: so many operations, each of them one of the first n, each quiet; then L -/
def headQ (P : Program) (md : Region.Mode) (ops : Array Oper) (C : World → Prop) (n : Nat) (L : Array Bool → Act → Prop) : Nat → Array Bool → Act → Prop
  | 0, listed, a => L listed a
  | f + 1, listed, a => Region.ready md ops listed ≠ [] ∧ ∀ i ∈ Region.ready md ops listed, i < n ∧ qOp P ops C i (headQ P md ops C n L f (listed.setIfInBounds i true)) a

theorem any_of_headQ {n g : Nat} {L : Array Bool → Act → Prop} {Q' : Exit → Act → World → Prop} (hL : ∀ listed a w, C w → L listed a → wpAny P md ops Q' g listed a w) (f : Nat) :
    ∀ (listed : Array Bool) (a : Act) (w : World), C w → headQ P md ops C n L f listed a → wpAny P md ops Q' (f + g) listed a w := by
  induction f with
  | zero => intro listed a w hw h; rw [Nat.zero_add]; exact hL _ _ _ hw h
  | succ f ih =>
    intro listed a w hw h
    rw [Nat.add_right_comm]
    exact ⟨fun h0 => absurd h0 h.1, fun i hi => wpOp_of_qOp hw (fun a' w' hw' h' => ih _ a' w' hw' h') (h.2 i hi).2⟩

theorem headQ_take {n i : Nat} {oi : Oper} {v : Value} {L : Array Bool → Act → Prop} (hi : ops[i]? = some oi) (hsel : ∀ (j : Nat) (o : Oper) cs b, ops[j]? = some o → o.op ≠ .select cs b)
    (hs : Region.sinkB md ops n = true) (hc : Region.chainB md ops n = true) (hn : n < ops.size) (hin : i < n) (hdone : ∀ listed a, L listed a → ∀ j ∈ Region.ready md ops listed, n ≤ j) (f : Nat) :
    ∀ (listed : Array Bool) (a : Act), HeadInv md ops n listed →
      (∀ j oj, ops[j]? = some oj → j ≠ i → listed.getD j true = false → (∀ e ∈ oj.after, Region.binds md e = true → e.on ≠ i) → oi.apart ops oj = true) →
      i ∈ Region.ready md ops listed → YieldsIn P ops C oi v a →
      headQ P md ops C n L f (listed.setIfInBounds i true) (a.put oi.dst v) → headQ P md ops C n L (f + 1) listed a := by
  induction f with
  | zero =>
    intro listed a inv hfree hr hy H
    refine ⟨List.ne_nil_of_mem hr, fun j hj => ?_⟩
    have hjn : j < n := Nat.lt_of_not_le fun h => tail_waits hs hc hn inv _ i rfl hin (mem_ready.1 hr).1 j h hj
    by_cases hji : j = i
    · subst hji; exact ⟨hjn, hy.qOp hi H⟩
    · exact absurd (hdone _ _ H j (ready_mono hj hji)) (by omega)
  | succ f ih =>
    intro listed a inv hfree hr hy H
    refine ⟨List.ne_nil_of_mem hr, fun j hj => ?_⟩
    have hun := (mem_ready.1 hr).1
    have hjn : j < n := Nat.lt_of_not_le fun h => tail_waits hs hc hn inv _ i rfl hin hun j h hj
    refine ⟨hjn, ?_⟩
    by_cases hji : j = i
    · subst hji; exact hy.qOp hi H
    · obtain ⟨hjun, oj, hoj, hall⟩ := mem_ready.1 hj
      have hnot : ∀ e ∈ oj.after, Region.binds md e = true → e.on ≠ i := fun e he hb heq => by
        have h1 := hall e he hb
        rw [heq, getD_both hun] at h1
        cases h1
      have h2 := qOp_put hoj (hfree j oj hoj hji hjun hnot) (fun cs b => hsel i oi cs b hi) (fun cs b => hsel j oj cs b hoj) hy (H.2 j (ready_mono hj hji)).2
      refine qOp_mono (fun a' h3 => ih (listed.setIfInBounds j true) a' (inv.set hj hjn) (fun k ok hk hki hun' hno => ?_) (ready_mono hr (Ne.symm hji)) h3.1 ?_) h2
      · refine hfree k ok hk hki ?_ hno
        by_cases hjk : j = k
        · subst hjk; exact hjun
        · rw [getD_set_ne true hjk] at hun'; exact hun'
      · rw [Array.setIfInBounds_comm _ _ hji]
        exact h3.2

theorem headQ_lex {n g : Nat} {Lq : Act → Prop} (hsel : Region.noSelect ops = true) (hs : Region.sinkB md ops n = true) (hc : Region.chainB md ops n = true) (hn : n < ops.size) :
    ∀ (l : List Oper) (k : Nat) (listed : Array Bool) (a : Act), (∀ j, j < l.length → l[j]? = ops[k + j]?) → k + l.length = n → HeadInv md ops n listed →
    Region.lexHead md ops g l.length k listed = true → wpQuiet P ops C Lq l a →
    headQ P md ops C n (fun listed' a' => Region.seqB md ops g n listed' = true ∧ Lq a') l.length listed a := by
  intro l
  induction l with
  | nil =>
    intro k listed a _ hk _ hB h
    obtain rfl : k = n := by simpa using hk
    exact ⟨by simpa [Region.lexHead] using hB, h⟩
  | cons o l ih =>
    intro k listed a hl hk inv hB h
    have h0 : ops[k]? = some o := by simpa using (hl 0 (by simp)).symm
    simp only [List.length_cons, Region.lexHead, Bool.and_eq_true] at hB
    obtain ⟨⟨hr, hf⟩, hB'⟩ := hB
    simp only [List.length_cons] at hk
    have hr' : k ∈ Region.ready md ops listed := by simpa using hr
    obtain ⟨v, hy, hK⟩ := yieldsIn_of_qOp (K := wpQuiet P ops C Lq l) (C := C) h0 (by unfold qOp; simp only [h0]; exact h)
    refine headQ_take h0 (Region.noSelect_spec hsel) hs hc hn (by omega) (fun listed' a' hL => seqB_ready hL.1) l.length listed a inv (Region.free_spec h0 hf) hr' hy ?_
    exact ih (k + 1) _ _ (fun j hj => by have := hl (j + 1) (by simp; omega); simpa [Nat.add_assoc, Nat.add_comm 1 j] using this) (by omega) (inv.set hr' (by omega)) hB' hK

/-- the head quiet over a class, the tail forced -/
theorem tail_class {id : Nat} {Q : Exit → Act → World → Prop} {a : Act} {w : World} {l : List Oper} (C : World → Prop) (n : Nat) (hm : P.follows .mixedOrders = true) (hB : Region.lexTailB .any l.toArray n = true) (hC : C w.drew)
    (h : wpQuiet P l.toArray C (fun a' => ∀ w', C w' → wpList P l.toArray Q (l.drop n) a' w') (l.take n) a) : (Code.region id l.toArray true).wp P Q a w := by
  simp only [Region.lexTailB, Bool.and_eq_true, decide_eq_true_eq] at hB
  obtain ⟨⟨⟨⟨hsel, hn⟩, hs⟩, hc⟩, hlex⟩ := hB
  have hn' : n < l.length := by simpa using hn
  have htl : (l.take n).length = n := by simp; omega
  have hdl : (l.drop n).length = l.toArray.size - n := by simp
  have inv0 : HeadInv .any l.toArray n (Array.replicate l.toArray.size false) :=
    ⟨by simp, fun j oj _ hl => (by rw [getD_replicate_false] at hl; cases hl), fun t _ ht => getD_in (by simpa using ht) (getD_replicate_false _ _)⟩
  have H := headQ_lex (md := .any) (g := l.toArray.size - n) hsel hs hc hn (l.take n) 0 _ a (fun j hj => by
    have hj' : j < n := by rw [htl] at hj; exact hj
    simp [hj']) (by simpa using htl) inv0 (by rw [htl]; exact hlex) h
  refine wp_region_any hm ?_
  have T := any_of_headQ (Q' := Q) (g := l.toArray.size - n) (fun listed a' w' hw' hL => by
    have := wpAny_of_seq (md := .any) (Q' := Q) (l.drop n) n listed a' w' (fun j => by simp [List.getElem?_drop]) (by rw [hdl]; exact hL.1) (hL.2 w' hw')
    rwa [hdl] at this) _ _ _ _ hC H
  rw [htl, show n + (l.toArray.size - n) = l.toArray.size by omega] at T
  exact T

/-- in this state, in every world of the class, the operation is a call that panics -/
def PanicsIn (P : Program) (ops : Array Oper) (C : World → Prop) (o : Oper) (Z : List PanicEntry → World → Prop) (a : Act) : Prop :=
  Region.wanted o (yielded ops a.tmps) = true ∧ ∀ w, C w → ∃ f args, (execOp a.eval o).run P w = .ok (.enter f args) w ∧ Calls P f args w fun e w' => ∃ ch, e = .panicked ch ∧ Z ch w'

/-- whatever comes up is quiet, or the one that panics -/
def headX (P : Program) (md : Region.Mode) (ops : Array Oper) (C : World → Prop) (p : Nat) (o : Oper) (Z : List PanicEntry → World → Prop) : Nat → Array Bool → Act → Prop
  | 0, listed, a => Region.ready md ops listed = [p] ∧ PanicsIn P ops C o Z a
  | f + 1, listed, a => Region.ready md ops listed ≠ [] ∧ ∀ i ∈ Region.ready md ops listed, (i = p ∧ PanicsIn P ops C o Z a) ∨ qOp P ops C i (headX P md ops C p o Z f (listed.setIfInBounds i true)) a

theorem put_defers (a : Act) (d : Option Tmp) (v : Value) : (a.put d v).defers = a.defers := by cases d <;> rfl

theorem PanicsIn.wpOp {p : Nat} {o : Oper} {Z : List PanicEntry → World → Prop} {a : Act} {w : World} {K : Act → World → Prop} {Q : Exit → Act → World → Prop} (ho : ops[p]? = some o) (hw : C w) (h : PanicsIn P ops C o Z a) (hQ : ∀ ch w', Z ch w' → Q (.panic ch) a w') : wpOp P ops Q p K a w := by
  obtain ⟨h1, h2⟩ := h
  obtain ⟨f, args, h3, h4⟩ := h2 w hw
  unfold Go.wpOp
  simp only [ho, h1, if_true]
  refine .inl ?_
  unfold Oper.wp
  rw [h3, Oper.upon_enter]
  refine h4.mono ?_
  rintro e w' ⟨ch, rfl, hz⟩
  exact hQ ch w' hz

theorem any_of_headX {p : Nat} {o : Oper} {Z : List PanicEntry → World → Prop} {Q : Exit → Act → World → Prop} {d : List Deferred} (ho : ops[p]? = some o) (hQ : ∀ a' ch w', a'.defers = d → Z ch w' → Q (.panic ch) a' w') (f : Nat) :
    ∀ (g : Nat) (listed : Array Bool) (a : Act) (w : World), C w → a.defers = d → f < g → headX P md ops C p o Z f listed a → wpAny P md ops Q g listed a w := by
  induction f with
  | zero =>
    intro g listed a w hw hd hg h
    obtain ⟨g, rfl⟩ : ∃ k, g = k + 1 := ⟨g - 1, by omega⟩
    obtain ⟨h1, h2⟩ := h
    refine ⟨fun h0 => (by rw [h1] at h0; cases h0), fun i hi => ?_⟩
    rw [h1] at hi
    obtain rfl : i = p := by simpa using hi
    exact h2.wpOp ho hw fun ch w' hz => hQ a ch w' hd hz
  | succ f ih =>
    intro g listed a w hw hd hg h
    obtain ⟨g, rfl⟩ : ∃ k, g = k + 1 := ⟨g - 1, by omega⟩
    refine ⟨fun h0 => absurd h0 h.1, fun i hi => ?_⟩
    rcases h.2 i hi with ⟨rfl, hx⟩ | hq
    · exact hx.wpOp ho hw fun ch w' hz => hQ a ch w' hd hz
    · unfold qOp at hq
      unfold wpOp
      split
      · rename_i hn; simp only [hn] at hq; exact ih g _ _ _ hw hd (by omega) hq
      · rename_i oi hoi
        simp only [hoi] at hq
        split
        · rename_i hwa
          simp only [hwa, if_true] at hq
          obtain ⟨v, h1, h2⟩ := hq
          exact .inl (Oper.wp_of_quiet (K := fun a'' => a'' = a.put oi.dst v) hw (fun a'' w' hw' e => by subst e; exact ih g _ _ _ hw' ((put_defers _ _ _).trans hd) (by omega) h2) ⟨v, h1, rfl⟩)
        · rename_i hwa
          simp only [hwa] at hq
          exact ih g _ _ _ hw ((put_defers _ _ _).trans hd) (by omega) hq

theorem PanicsIn.of_put {o oi : Oper} {Z : List PanicEntry → World → Prop} {a : Act} {v : Value} (hap : oi.apart ops o = true) (hsel : ∀ cs b, o.op ≠ .select cs b) (h : PanicsIn P ops C o Z (a.put oi.dst v)) : PanicsIn P ops C o Z a := by
  obtain ⟨h1, h2, h3⟩ := Oper.apart_spec hap
  unfold PanicsIn at *
  rw [wanted_put o a oi.dst v h1, execOp_put o hsel a oi.dst v h1] at h
  exact h

theorem headX_take {p i : Nat} {o oi : Oper} {v : Value} {Z : List PanicEntry → World → Prop} (ho : ops[p]? = some o) (hi : ops[i]? = some oi) (hip : i ≠ p) (hsel : ∀ (j : Nat) (o : Oper) cs b, ops[j]? = some o → o.op ≠ .select cs b) (f : Nat) :
    ∀ (listed : Array Bool) (a : Act),
      (∀ j oj, ops[j]? = some oj → j ≠ i → listed.getD j true = false → (∀ e ∈ oj.after, Region.binds md e = true → e.on ≠ i) → oi.apart ops oj = true) →
      i ∈ Region.ready md ops listed → YieldsIn P ops C oi v a →
      headX P md ops C p o Z f (listed.setIfInBounds i true) (a.put oi.dst v) → headX P md ops C p o Z (f + 1) listed a := by
  have key : ∀ (listed : Array Bool), i ∈ Region.ready md ops listed → ∀ j oj, j ∈ Region.ready md ops listed → ops[j]? = some oj → ∀ e ∈ oj.after, Region.binds md e = true → e.on ≠ i := by
    intro listed hr j oj hj hoj e he hb heq
    obtain ⟨_, o', ho', hall⟩ := mem_ready.1 hj
    obtain rfl : o' = oj := Option.some.inj (ho'.symm.trans hoj)
    have h1 := hall e he hb
    rw [heq, getD_both (mem_ready.1 hr).1] at h1
    cases h1
  induction f with
  | zero =>
    intro listed a hfree hr hy H
    refine ⟨List.ne_nil_of_mem hr, fun j hj => ?_⟩
    by_cases hji : j = i
    · subst hji
      exact .inr (hy.qOp hi H)
    · have h1 := ready_mono hj hji
      rw [H.1] at h1
      obtain rfl : j = p := by simpa using h1
      exact .inl ⟨rfl, H.2.of_put (hfree j o ho hji (mem_ready.1 hj).1 (key listed hr j o hj ho)) (hsel j o · · ho)⟩
  | succ f ih =>
    intro listed a hfree hr hy H
    refine ⟨List.ne_nil_of_mem hr, fun j hj => ?_⟩
    by_cases hji : j = i
    · subst hji
      exact .inr (hy.qOp hi H)
    · obtain ⟨hjun, oj, hoj, hall⟩ := mem_ready.1 hj
      have hnot := key listed hr j oj hj hoj
      have hap := hfree j oj hoj hji hjun hnot
      rcases H.2 j (ready_mono hj hji) with ⟨rfl, hx⟩ | hq
      · obtain rfl : oj = o := Option.some.inj (hoj.symm.trans ho)
        exact .inl ⟨rfl, hx.of_put hap (hsel j oj · · ho)⟩
      · have h2 := qOp_put hoj hap (fun cs b => hsel i oi cs b hi) (fun cs b => hsel j oj cs b hoj) hy hq
        refine .inr (qOp_mono (fun a' h3 => ih (listed.setIfInBounds j true) a' (fun k ok hk hki hun' hno => ?_) (ready_mono hr (Ne.symm hji)) h3.1 ?_) h2)
        · refine hfree k ok hk hki ?_ hno
          by_cases hjk : j = k
          · subst hjk; exact hjun
          · rw [getD_set_ne true hjk] at hun'; exact hun'
        · rw [Array.setIfInBounds_comm _ _ hji]
          exact h3.2

/-- these may be taken as they stand; then that one alone may come up -/
def lexX (md : Region.Mode) (ops : Array Oper) (p : Nat) : List Nat → Array Bool → Bool
  | [], listed => Region.ready md ops listed == [p]
  | k :: ks, listed => (Region.ready md ops listed).contains k && k != p && Region.free md ops listed k && lexX md ops p ks (listed.setIfInBounds k true)

theorem headX_lex {p : Nat} {o : Oper} {Z : List PanicEntry → World → Prop} (ho : ops[p]? = some o) (hsel : Region.noSelect ops = true) :
    ∀ (l : List Oper) (ks : List Nat) (listed : Array Bool) (a : Act), l.length = ks.length → (∀ (j k : Nat), ks[j]? = some k → l[j]? = ops[k]?) →
    lexX md ops p ks listed = true → wpQuiet P ops C (PanicsIn P ops C o Z) l a → headX P md ops C p o Z l.length listed a := by
  intro l
  induction l with
  | nil =>
    intro ks listed a hk _ hB h
    obtain rfl : ks = [] := List.eq_nil_of_length_eq_zero hk.symm
    exact ⟨by simpa [lexX] using hB, h⟩
  | cons oi l ih =>
    intro ks listed a hk hl hB h
    match ks, hk with
    | k :: ks, hk =>
      have h0 : ops[k]? = some oi := by simpa using (hl 0 k rfl).symm
      simp only [lexX, Bool.and_eq_true, bne_iff_ne, ne_eq] at hB
      obtain ⟨⟨⟨hr, hkp⟩, hf⟩, hB'⟩ := hB
      have hr' : k ∈ Region.ready md ops listed := by simpa using hr
      obtain ⟨v, hy, hK⟩ := yieldsIn_of_qOp (K := wpQuiet P ops C (PanicsIn P ops C o Z) l) (C := C) h0 (by unfold qOp; simp only [h0]; exact h)
      refine headX_take ho h0 hkp (Region.noSelect_spec hsel) l.length listed a (Region.free_spec h0 hf) hr' hy ?_
      exact ih ks _ _ (by simpa using hk) (fun j k' hj => by have := hl (j + 1) k' (by simpa using hj); simpa using this) hB' hK

/-- all ahead of p, and m from q on -/
def aheadX (p q m : Nat) : List Nat := List.range p ++ (List.range m).map (q + ·)
def lexXB (ops : Array Oper) (p q m : Nat) : Bool := Region.noSelect ops && decide (p < q) && decide (q + m ≤ ops.size) && lexX .any ops p (aheadX p q m) (Array.replicate ops.size false)

/-- a call that panics, whatever came ahead of it -/
theorem region_panics {id : Nat} {Q : Exit → Act → World → Prop} {a : Act} {w : World} {l : List Oper} (C : World → Prop) (Z : List PanicEntry → World → Prop) (p q m : Nat) (o : Oper) (ho : l[p]? = some o) (hm : P.follows .mixedOrders = true) (hB : lexXB l.toArray p q m = true) (hC : C w.drew)
    (hQ : ∀ a' ch w', a'.defers = a.defers → Z ch w' → Q (.panic ch) a' w')
    (h : wpQuiet P l.toArray C (PanicsIn P l.toArray C o Z) (l.take p ++ (l.drop q).take m) a) : (Code.region id l.toArray true).wp P Q a w := by
  simp only [lexXB, Bool.and_eq_true, decide_eq_true_eq] at hB
  obtain ⟨⟨⟨hsel, hpq⟩, hp⟩, hlex⟩ := hB
  have hp' : q + m ≤ l.length := by simpa using hp
  have htl : (l.take p ++ (l.drop q).take m).length = p + m := by simp; omega
  have hal : (aheadX p q m).length = p + m := by simp [aheadX]
  have H := headX_lex (md := .any) (P := P) (C := C) (ops := l.toArray) (p := p) (o := o) (Z := Z) (by simpa using ho) hsel (l.take p ++ (l.drop q).take m) (aheadX p q m) (Array.replicate l.toArray.size false) a (htl.trans hal.symm) (fun j k hj => by
    unfold aheadX at hj
    have htp : (l.take p).length = p := by simp; omega
    by_cases hjp : j < p
    · rw [List.getElem?_append_left (by simpa using hjp)] at hj
      rw [List.getElem?_append_left (by rw [htp]; exact hjp)]
      have : j = k := by simpa [hjp] using hj
      subst this
      simp [hjp]
    · rw [List.getElem?_append_right (by simpa using hjp)] at hj
      rw [List.getElem?_append_right (by rw [htp]; omega), htp]
      simp only [List.length_range, List.getElem?_map, Option.map_eq_some_iff] at hj
      obtain ⟨x, hx, rfl⟩ := hj
      have hx' := List.getElem?_eq_some_iff.1 hx
      obtain ⟨hlt, hx'⟩ := hx'
      simp only [List.length_range] at hlt
      simp only [List.getElem_range] at hx'
      subst hx'
      rw [List.getElem?_take_of_lt hlt, List.getElem?_drop]
      simp) hlex h
  rw [htl] at H
  exact wp_region_any hm (any_of_headX (by simpa using ho) (fun a' ch w' hd hz => hQ a' ch w' hd hz) (p + m) _ _ _ _ hC rfl (by simpa using (by omega : p + m < l.length)) H)
end
end Go.Proofs.YtdklaeppcjopoaaGreat

/- An instruction that lies in a block of its own. -/
namespace Go.Proofs.YtdklaeppcjopoaaGreat
open Go.RowKit
set_option linter.unusedVariables false

/-- the nine cells of block B hold the instruction v -/
structure InstAt (W : World) (B : Nat) (v : InV) : Prop where
  c0 : W.cell? ⟨B, 0, none⟩ = some (.int .i64 v.op)
  c1 : W.cell? ⟨B, 1, none⟩ = some (.int .i64 v.a)
  c2 : W.cell? ⟨B, 2, none⟩ = some (.int .i64 v.b)
  c3 : W.cell? ⟨B, 3, none⟩ = some (.int .i64 v.c)
  c4 : W.cell? ⟨B, 4, none⟩ = some (.int .i64 v.k)
  c5 : W.cell? ⟨B, 5, none⟩ = some (.int .i64 v.sub)
  c6 : W.cell? ⟨B, 6, none⟩ = some (.int .i64 v.scale)
  c7 : W.cell? ⟨B, 7, none⟩ = some (.int .i64 v.imm)
  c8 : W.cell? ⟨B, 8, none⟩ = some (.int .i64 v.label)
  fz : ∀ k, W.frozen? ⟨B, k, none⟩ = false

theorem InstAt.lt {W : World} {B : Nat} {v : InV} (h : InstAt W B v) : B < W.heap.size := World.block_lt_of_cell? _ _ h.c0
theorem InstAt.new (W : World) (v : InV) : InstAt (W.alloc (.cells #[.int .i64 v.op, .int .i64 v.a, .int .i64 v.b, .int .i64 v.c, .int .i64 v.k, .int .i64 v.sub, .int .i64 v.scale, .int .i64 v.imm, .int .i64 v.label] 87)) W.heap.size v := by
  constructor <;> intros <;> simp
theorem InstAt.kept {W W' : World} {B : Nat} {v : InV} {row : Option Nat} (h : InstAt W B v) (hg : W.grownBy W' row) (hne : some B ≠ row) : InstAt W' B v :=
  ⟨hg.cell h.c0 hne, hg.cell h.c1 hne, hg.cell h.c2 hne, hg.cell h.c3 hne, hg.cell h.c4 hne, hg.cell h.c5 hne, hg.cell h.c6 hne, hg.cell h.c7 hne, hg.cell h.c8 hne, fun k => (hg.frozen_far ⟨B, k, none⟩ h.lt hne).trans (h.fz k)⟩
theorem InstAt.drewN {W : World} {B : Nat} {v : InV} (h : InstAt W B v) (n : Nat) : InstAt (W.drewN n) B v := h.kept (grown_drewN (World.grownBy.refl _ none) n) (by simp)
theorem InstAt.set3 {W : World} {B : Nat} {v : InV} (h : InstAt W B v) (x : Int) : InstAt (W.setCell ⟨B, 3, none⟩ (.int .i64 x)) B { v with c := x } :=
  ⟨(World.cell?_setCell_other _ _ _ _ (by simp)).trans h.c0, (World.cell?_setCell_other _ _ _ _ (by simp)).trans h.c1, (World.cell?_setCell_other _ _ _ _ (by simp)).trans h.c2, World.cell?_setCell_same _ _ _ h.c3, (World.cell?_setCell_other _ _ _ _ (by simp)).trans h.c4, (World.cell?_setCell_other _ _ _ _ (by simp)).trans h.c5, (World.cell?_setCell_other _ _ _ _ (by simp)).trans h.c6, (World.cell?_setCell_other _ _ _ _ (by simp)).trans h.c7, (World.cell?_setCell_other _ _ _ _ (by simp)).trans h.c8, fun j => (World.frozen?_setCell _ _ _ _).trans (h.fz j)⟩
theorem InstAt.set4 {W : World} {B : Nat} {v : InV} (h : InstAt W B v) (x : Int) : InstAt (W.setCell ⟨B, 4, none⟩ (.int .i64 x)) B { v with k := x } :=
  ⟨(World.cell?_setCell_other _ _ _ _ (by simp)).trans h.c0, (World.cell?_setCell_other _ _ _ _ (by simp)).trans h.c1, (World.cell?_setCell_other _ _ _ _ (by simp)).trans h.c2, (World.cell?_setCell_other _ _ _ _ (by simp)).trans h.c3, World.cell?_setCell_same _ _ _ h.c4, (World.cell?_setCell_other _ _ _ _ (by simp)).trans h.c5, (World.cell?_setCell_other _ _ _ _ (by simp)).trans h.c6, (World.cell?_setCell_other _ _ _ _ (by simp)).trans h.c7, (World.cell?_setCell_other _ _ _ _ (by simp)).trans h.c8, fun j => (World.frozen?_setCell _ _ _ _).trans (h.fz j)⟩
theorem InstAt.set5 {W : World} {B : Nat} {v : InV} (h : InstAt W B v) (x : Int) : InstAt (W.setCell ⟨B, 5, none⟩ (.int .i64 x)) B { v with sub := x } :=
  ⟨(World.cell?_setCell_other _ _ _ _ (by simp)).trans h.c0, (World.cell?_setCell_other _ _ _ _ (by simp)).trans h.c1, (World.cell?_setCell_other _ _ _ _ (by simp)).trans h.c2, (World.cell?_setCell_other _ _ _ _ (by simp)).trans h.c3, (World.cell?_setCell_other _ _ _ _ (by simp)).trans h.c4, World.cell?_setCell_same _ _ _ h.c5, (World.cell?_setCell_other _ _ _ _ (by simp)).trans h.c6, (World.cell?_setCell_other _ _ _ _ (by simp)).trans h.c7, (World.cell?_setCell_other _ _ _ _ (by simp)).trans h.c8, fun j => (World.frozen?_setCell _ _ _ _).trans (h.fz j)⟩
theorem InstAt.set7 {W : World} {B : Nat} {v : InV} (h : InstAt W B v) (x : Int) : InstAt (W.setCell ⟨B, 7, none⟩ (.int .i64 x)) B { v with imm := x } :=
  ⟨(World.cell?_setCell_other _ _ _ _ (by simp)).trans h.c0, (World.cell?_setCell_other _ _ _ _ (by simp)).trans h.c1, (World.cell?_setCell_other _ _ _ _ (by simp)).trans h.c2, (World.cell?_setCell_other _ _ _ _ (by simp)).trans h.c3, (World.cell?_setCell_other _ _ _ _ (by simp)).trans h.c4, (World.cell?_setCell_other _ _ _ _ (by simp)).trans h.c5, (World.cell?_setCell_other _ _ _ _ (by simp)).trans h.c6, World.cell?_setCell_same _ _ _ h.c7, (World.cell?_setCell_other _ _ _ _ (by simp)).trans h.c8, fun j => (World.frozen?_setCell _ _ _ _).trans (h.fz j)⟩

end Go.Proofs.YtdklaeppcjopoaaGreat

/- Instructions that came in: a slice of them, opened; bytes of one's own compared. -/
namespace Go.Proofs.YtdklaeppcjopoaaGreat
open Go.RowKit
set_option linter.unusedVariables false

/-- the nine cells from o on hold the instruction v -/
structure InAt (w : World) (b o : Nat) (v : InV) : Prop where
  c0 : w.cell? ⟨b, o, none⟩ = some (.int .i64 v.op)
  c1 : w.cell? ⟨b, o + 1, none⟩ = some (.int .i64 v.a)
  c2 : w.cell? ⟨b, o + 2, none⟩ = some (.int .i64 v.b)
  c3 : w.cell? ⟨b, o + 3, none⟩ = some (.int .i64 v.c)
  c4 : w.cell? ⟨b, o + 4, none⟩ = some (.int .i64 v.k)
  c5 : w.cell? ⟨b, o + 5, none⟩ = some (.int .i64 v.sub)
  c6 : w.cell? ⟨b, o + 6, none⟩ = some (.int .i64 v.scale)
  c7 : w.cell? ⟨b, o + 7, none⟩ = some (.int .i64 v.imm)
  c8 : w.cell? ⟨b, o + 8, none⟩ = some (.int .i64 v.label)

theorem InAt.kept {w w' : World} {b o : Nat} {v : InV} {row : Option Nat} (h : InAt w b o v) (hg : w.grownBy w' row) (hne : some b ≠ row) : InAt w' b o v :=
  ⟨hg.cell h.c0 hne, hg.cell h.c1 hne, hg.cell h.c2 hne, hg.cell h.c3 hne, hg.cell h.c4 hne, hg.cell h.c5 hne, hg.cell h.c6 hne, hg.cell h.c7 hne, hg.cell h.c8 hne⟩
end Go.Proofs.YtdklaeppcjopoaaGreat

/- Rows of bytes that came in: opened. -/
namespace Go.Proofs.YtdklaeppcjopoaaGreat
open Go.RowKit
set_option linter.unusedVariables false

/-- a slice of bytes that came in -/
structure BsIn (W : World) (ao : Option Addr) (len cap : Nat) (g : Nat → Int) : Prop where
  nil : ao = none → len = 0 ∧ cap = 0
  le : len ≤ cap
  max : cap ≤ maxLen
  fit : Mm.Fit g
  bs : Bs W ao len g
  lt : ∀ b off, 0 < len → ao = some ⟨b, off, none⟩ → b < W.heap.size

theorem open_bytes {H : Type} {enc : TypeId × Value → H} {W : World} {spare : Nat → Bool} {held : Bool} {fuel : Nat} {cs : List Value} {x : DataW H × List MemPlace}
    (h : DataW.trod enc Tryz.prog W 0 spare held fuel 24 cs = some x) : ∃ ao len cap g, cs = [.slice ao len cap] ∧ BsIn W ao len cap g := by
  have ce : Tryz.prog.cellsOf 5 = 1 := by kernel_rfl
  rcases Go.Deep.open_slice1 Tryz.underlying24 ce h with ⟨hcs, _⟩ | ⟨a, len, cap, m, n, V, D, Pl, hcs, hb, hl, hm, hmm, _, hx⟩
  · exact ⟨none, 0, 0, fun _ => 0, hcs, ⟨fun _ => ⟨rfl, rfl⟩, Nat.le_refl _, Nat.zero_le _, fun _ => by omega, .inl rfl, fun _ _ h => by omega⟩⟩
  · have hlm : len ≤ m := by rw [hmm]; split <;> omega
    have each : ∀ i, i < len → ∃ z : Int, V i = .int .u8 z ∧ 0 ≤ z ∧ z < 256 := by
      intro i hi
      obtain ⟨_, h2⟩ := hx i (by omega)
      obtain ⟨z, e, _, f⟩ := DataW.trod_int Tryz.underlying5 h2
      simp at e
      have f := bounds_u8 f
      exact ⟨z, e, by omega, by omega⟩
    by_cases h0 : len = 0
    · subst h0
      exact ⟨some a, 0, cap, fun _ => 0, hcs, ⟨(fun h => by cases h), hl, hm, fun _ => by omega, .inl rfl, fun _ _ h => by omega⟩⟩
    obtain ⟨b, off, spot⟩ := a
    obtain ⟨c0, _⟩ := hx 0 (by omega)
    have c0 : W.cell? ⟨b, off, spot⟩ = some (V 0) := by simpa [Addr.add] using c0
    obtain rfl : spot = none := World.cell?_spot c0
    have hlt := World.block_lt_of_cell? _ _ c0
    refine ⟨some ⟨b, off, none⟩, len, cap, fun i => if h : i < len then Classical.choose (each i h) else 0, hcs, ⟨(fun h => by cases h), hl, hm, fun i => ?_, .inr ⟨b, off, rfl, fun i hi => ?_⟩, fun b' off' _ e => ?_⟩⟩
    · by_cases h : i < len
      · simp only [dif_pos h]; exact (Classical.choose_spec (each i h)).2
      · simp only [dif_neg h]; omega
    · simp only [dif_pos hi]
      rw [← (Classical.choose_spec (each i hi)).1, ← add_none]
      exact (hx i (by omega)).1
    · injection e with e
      injection e with e
      subst e
      exact hlt

theorem BsIn.kept {W W' : World} {ao : Option Addr} {n cap : Nat} {g : Nat → Int} (h : BsIn W ao n cap g) (hg : W.grownBy W' none) : BsIn W' ao n cap g := by
  refine ⟨h.nil, h.le, h.max, h.fit, ?_, fun b off h0 e => Nat.lt_of_lt_of_le (h.lt b off h0 e) hg.size⟩
  rcases h.bs with h0 | ⟨b, off, e, hc⟩
  · exact .inl h0
  · exact .inr ⟨b, off, e, fun i hi => hg.cell (hc i hi) (by simp)⟩

theorem Bs.kept {w w' : World} {ao : Option Addr} {n : Nat} {g : Nat → Int} (h : Bs w ao n g) (hg : w.grownBy w' none) : Bs w' ao n g := by
  rcases h with h | ⟨b, off, e, hc⟩
  · exact .inl h
  · exact .inr ⟨b, off, e, fun i hi => hg.cell (hc i hi) (by simp)⟩

end Go.Proofs.YtdklaeppcjopoaaGreat

/- Bytes that a call made itself, as a list. -/
namespace Go.Proofs.YtdklaeppcjopoaaGreat
open Go.RowKit
set_option linter.unusedVariables false

/-- a row of the call's own whose bytes are l -/
def OwnL (w : World) (base : Nat) (v : Value) (l : List Int) : Prop := w.ownsRow base 5 1 v l.length (l.map (Value.int .u8))

theorem OwnL.nil (w : World) (base : Nat) : OwnL w base (.slice none 0 0) [] := World.ownsRow_nil _ _ _ _
theorem OwnL.kept {w w' : World} {base : Nat} {v : Value} {l : List Int} {row : Option Nat} (h : OwnL w base v l) (hg : w.grownBy w' row) (hne : v.ownBlock = none ∨ v.ownBlock ≠ row) : OwnL w' base v l := World.ownsRow.kept h hg hne
theorem OwnL.low {w : World} {base base' : Nat} {v : Value} {l : List Int} (h : OwnL w base v l) (hb : base' ≤ base) : OwnL w base' v l := World.ownsRow.mono h hb
/-- behind an append -/
theorem OwnL.app {w : World} {base : Nat} {v : Value} {l m : List Int} (h : w.ownsRow base 5 1 v (l.length + m.length) (l.map (Value.int .u8) ++ m.map (Value.int .u8))) : OwnL w base v (l ++ m) := by
  unfold OwnL
  rw [List.length_append, List.map_append]
  exact h
theorem OwnL.one {w : World} {base : Nat} {v : Value} {l : List Int} {x : Int} (h : w.ownsRow base 5 1 v (l.length + 1) (l.map (Value.int .u8) ++ [.int .u8 x])) : OwnL w base v (l ++ [x]) := OwnL.app (m := [x]) h
/-- a literal row -/
theorem OwnL.lit (w : World) (base : Nat) (l : List Int) (hb : base ≤ w.heap.size) (hm : l.length ≤ maxLen) : OwnL (w.alloc (.cells (l.map (Value.int .u8)).toArray 5)) base (.slice (some ⟨w.heap.size, 0, none⟩) l.length l.length) l := by
  have := World.ownsRow_lit (base := base) (e := 5) (size := 1) w (l.map (Value.int .u8)).toArray l.length hb hm (by simp)
  simpa [OwnL] using this

namespace Cc
end Cc
end Go.Proofs.YtdklaeppcjopoaaGreat

/- The program's machine: how it lies in memory. -/
namespace Go.Proofs.YtdklaeppcjopoaaGreat
open Go.RowKit
set_option linter.unusedVariables false

/-- where a machine's parts lie, and what stays: the target, the code, the machine's block, its memory -/
structure Pd where
  t : Int
  ao : Option Addr
  N : Nat
  cap : Nat
  g : Nat → Int
  B : Nat
  M : Nat
  D : Nat
  S : Nat
namespace Pd
def ty (h : Pd) : TypeId := if h.t = 2 then 120 else 115
def n (h : Pd) : Nat := if h.t = 2 then 26 else 23
def im (h : Pd) : Ru.Im := ⟨h.t, h.N, h.g, h.S⟩
def fld (h : Pd) (s : Ru.St) : Nat → Value
  | 0 => .slice h.ao h.N h.cap
  | 1 => .int .u64 (Ru.wr s.pl)
  | 2 => .int .u64 (s.r 0)
  | 3 => .int .u64 (s.r 1)
  | 4 => .int .u64 (s.r 2)
  | 5 => .int .u64 (s.r 3)
  | 6 => .int .u64 (s.r 4)
  | 7 => .int .u64 (s.r 5)
  | 8 => .int .u64 (s.r 6)
  | 9 => .int .u64 (s.r 7)
  | 10 => .int .u64 (s.r 8)
  | 11 => .int .u64 (s.r 9)
  | 12 => .int .u64 (s.r 10)
  | 13 => .int .u64 (s.r 11)
  | 14 => .int .u64 (s.r 12)
  | 15 => .int .u64 (s.r 13)
  | 16 => .int .u64 (s.r 14)
  | 17 => .int .u64 (s.r 15)
  | 18 => .pointer (some ⟨h.M, 0, none⟩)
  | 19 => .int .u64 s.hp
  | 20 => .int .u64 (h.S - 4096)
  | 21 => .int .i64 s.e
  | 22 => .int .i64 s.n
  | 23 => .int .i64 s.k
  | 24 => .int .u64 s.x
  | _ => .int .u64 s.y
theorem fld_reg (h : Pd) (s : Ru.St) {a : Nat} (ha : a < 16) : h.fld s (2 + a) = .int .u64 (s.r a) := by
  have hc : a = 0 ∨ a = 1 ∨ a = 2 ∨ a = 3 ∨ a = 4 ∨ a = 5 ∨ a = 6 ∨ a = 7 ∨ a = 8 ∨ a = 9 ∨ a = 10 ∨ a = 11 ∨ a = 12 ∨ a = 13 ∨ a = 14 ∨ a = 15 := by omega
  rcases hc with rfl | rfl | rfl | rfl | rfl | rfl | rfl | rfl | rfl | rfl | rfl | rfl | rfl | rfl | rfl | rfl <;> rfl
theorem n23 (h : Pd) {k : Nat} (hk : k < 23) : k < h.n := by unfold n; split <;> omega
end Pd
/-- a machine as it lies -/
structure IsC (w : World) (h : Pd) (s : Ru.St) : Prop where
  hd : w.rowIs h.B h.ty h.n (h.fld s)
  mm : IsM w h.M h.D h.S s.m
  cd : BsIn w h.ao h.N h.cap h.g
  cb : ∀ b off, 0 < h.N → h.ao = some ⟨b, off, none⟩ → b ≠ h.B ∧ b ≠ h.M ∧ b ≠ h.D
  s1 : (8192 : Int) ≤ h.S
  s2 : (h.S : Int) ≤ 1048576
  ok : s.Ok
/-- bytes that came in, in a world that has grown -/
theorem BsIn.grow {w w' : World} {ao : Option Addr} {n cap : Nat} {g : Nat → Int} {row : Option Nat} (h : BsIn w ao n cap g) (hg : w.grownBy w' row) (hne : ∀ b off, 0 < n → ao = some ⟨b, off, none⟩ → some b ≠ row) : BsIn w' ao n cap g where
  nil := h.nil
  le := h.le
  max := h.max
  fit := h.fit
  bs := by
    rcases Nat.eq_zero_or_pos n with h0 | h0
    · exact .inl h0
    · obtain ⟨b, off, e, hc⟩ := h.bs.at h0
      exact .inr ⟨b, off, e, fun i hi => hg.cell (hc i hi) (hne b off h0 e)⟩
  lt := fun b off h0 e => Nat.lt_of_lt_of_le (h.lt b off h0 e) hg.size
namespace IsC
variable {w : World} {h : Pd} {s : Ru.St}
theorem c0 (x : IsC w h s) : w.cell? ⟨h.B, 0, none⟩ = some (.slice h.ao h.N h.cap) := x.hd.cell (h.n23 (by decide))
theorem c1 (x : IsC w h s) : w.cell? ⟨h.B, 1, none⟩ = some (.int .u64 (Ru.wr s.pl)) := x.hd.cell (h.n23 (by decide))
theorem c18 (x : IsC w h s) : w.cell? ⟨h.B, 18, none⟩ = some (.pointer (some ⟨h.M, 0, none⟩)) := x.hd.cell (h.n23 (by decide))
theorem c19 (x : IsC w h s) : w.cell? ⟨h.B, 19, none⟩ = some (.int .u64 s.hp) := x.hd.cell (h.n23 (by decide))
theorem c20 (x : IsC w h s) : w.cell? ⟨h.B, 20, none⟩ = some (.int .u64 (h.S - 4096)) := x.hd.cell (h.n23 (by decide))
theorem c21 (x : IsC w h s) : w.cell? ⟨h.B, 21, none⟩ = some (.int .i64 s.e) := x.hd.cell (h.n23 (by decide))
theorem c22 (x : IsC w h s) : w.cell? ⟨h.B, 22, none⟩ = some (.int .i64 s.n) := x.hd.cell (h.n23 (by decide))
theorem c23 (x : IsC w h s) (ht : h.t = 2) : w.cell? ⟨h.B, 23, none⟩ = some (.int .i64 s.k) := x.hd.cell (by unfold Pd.n; rw [if_pos ht]; decide)
theorem c24 (x : IsC w h s) (ht : h.t = 2) : w.cell? ⟨h.B, 24, none⟩ = some (.int .u64 s.x) := x.hd.cell (by unfold Pd.n; rw [if_pos ht]; decide)
theorem c25 (x : IsC w h s) (ht : h.t = 2) : w.cell? ⟨h.B, 25, none⟩ = some (.int .u64 s.y) := x.hd.cell (by unfold Pd.n; rw [if_pos ht]; decide)
theorem rc (x : IsC w h s) {a : Nat} (ha : a < 16) : w.cell? ⟨h.B, 2 + a, none⟩ = some (.int .u64 (s.r a)) := by
  rw [← Pd.fld_reg h s ha]
  exact x.hd.cell (h.n23 (by omega))
theorem fz (x : IsC w h s) (k : Nat) : w.frozen? ⟨h.B, k, none⟩ = false := x.hd.frozen k
theorem bty (h : Pd) : h.ty ≠ 5 := by unfold Pd.ty; split <;> decide
theorem bty2 (h : Pd) : h.ty ≠ 151 := by unfold Pd.ty; split <;> decide
theorem bm (x : IsC w h s) : h.B ≠ h.M := row_apart x.hd x.mm.head (bty2 h)
theorem bd (x : IsC w h s) : h.B ≠ h.D := row_apart x.hd x.mm.row (bty h)
theorem md (x : IsC w h s) : h.M ≠ h.D := row_apart x.mm.head x.mm.row (by decide)
/-- a field is stored -/
theorem upd (x : IsC w h s) (k : Nat) (v : Value) {s' : Ru.St} (e : ∀ j, j < 26 → (if j = k then v else h.fld s j) = h.fld s' j) (hm : s'.m = s.m) (hok : s'.Ok) : IsC (w.setCell ⟨h.B, k, none⟩ v) h s' where
  hd := (x.hd.set k v).congr (fun j hj => e j (Nat.lt_of_lt_of_le hj (by unfold Pd.n; split <;> omega)))
  mm := by rw [hm]; exact x.mm.kept (grown_setCell _ _ _ _) (fun e => x.bm (by injection e with e; exact e.symm)) (fun e => x.bd (by injection e with e; exact e.symm))
  cd := x.cd.grow (grown_setCell _ _ _ _) (fun b off h0 e hh => (x.cb b off h0 e).1 (by injection hh))
  cb := x.cb
  s1 := x.s1
  s2 := x.s2
  ok := hok
theorem put (x : IsC w h s) {a : Nat} (ha : a < 16) {y : Int} (hy : Ru.W64 y) : IsC (w.setCell ⟨h.B, 2 + a, none⟩ (.int .u64 y)) h (s.put a y) := by
  refine x.upd (2 + a) _ (fun j hj => ?_) rfl (x.ok.put a hy)
  by_cases hja : j = 2 + a
  · subst hja
    rw [if_pos rfl, Pd.fld_reg _ _ ha]
    show Value.int .u64 y = Value.int .u64 (if a = ((a : Nat) : Int).toNat then y else s.r a)
    rw [Int.toNat_natCast, if_pos rfl]
  · rw [if_neg hja]
    by_cases h2 : 2 ≤ j ∧ j < 18
    · obtain ⟨b, rfl⟩ : ∃ b, j = 2 + b := ⟨j - 2, by omega⟩
      have hb : b < 16 := by omega
      rw [Pd.fld_reg _ _ hb, Pd.fld_reg _ _ hb]
      show _ = Value.int .u64 (if b = ((a : Nat) : Int).toNat then y else s.r b)
      rw [Int.toNat_natCast, if_neg (by omega)]
    · have hc : j = 0 ∨ j = 1 ∨ j = 18 ∨ j = 19 ∨ j = 20 ∨ j = 21 ∨ j = 22 ∨ j = 23 ∨ j = 24 ∨ j = 25 := by omega
      rcases hc with rfl | rfl | rfl | rfl | rfl | rfl | rfl | rfl | rfl | rfl <;> rfl
theorem all26 {p : Nat → Prop} (h : p 0 ∧ p 1 ∧ p 2 ∧ p 3 ∧ p 4 ∧ p 5 ∧ p 6 ∧ p 7 ∧ p 8 ∧ p 9 ∧ p 10 ∧ p 11 ∧ p 12 ∧ p 13 ∧ p 14 ∧ p 15 ∧ p 16 ∧ p 17 ∧ p 18 ∧ p 19 ∧ p 20 ∧ p 21 ∧ p 22 ∧ p 23 ∧ p 24 ∧ p 25) : ∀ j, j < 26 → p j := by
  obtain ⟨a0, a1, a2, a3, a4, a5, a6, a7, a8, a9, b0, b1, b2, b3, b4, b5, b6, b7, b8, b9, d0, d1, d2, d3, d4, d5⟩ := h
  intro j hj
  have hc : j = 0 ∨ j = 1 ∨ j = 2 ∨ j = 3 ∨ j = 4 ∨ j = 5 ∨ j = 6 ∨ j = 7 ∨ j = 8 ∨ j = 9 ∨ j = 10 ∨ j = 11 ∨ j = 12 ∨ j = 13 ∨ j = 14 ∨ j = 15 ∨ j = 16 ∨ j = 17 ∨ j = 18 ∨ j = 19 ∨ j = 20 ∨ j = 21 ∨ j = 22 ∨ j = 23 ∨ j = 24 ∨ j = 25 := by omega
  rcases hc with rfl | rfl | rfl | rfl | rfl | rfl | rfl | rfl | rfl | rfl | rfl | rfl | rfl | rfl | rfl | rfl | rfl | rfl | rfl | rfl | rfl | rfl | rfl | rfl | rfl | rfl <;> assumption
theorem pl (x : IsC w h s) {p : Int} (hp : -9223372036854775808 ≤ p ∧ p ≤ 9223372036854775807) : IsC (w.setCell ⟨h.B, 1, none⟩ (.int .u64 (Ru.wr p))) h { s with pl := p } :=
  x.upd 1 _ (all26 (by refine ⟨?_, ?_, ?_, ?_, ?_, ?_, ?_, ?_, ?_, ?_, ?_, ?_, ?_, ?_, ?_, ?_, ?_, ?_, ?_, ?_, ?_, ?_, ?_, ?_, ?_, ?_⟩ <;> rfl)) rfl ⟨x.ok.r, x.ok.hp, x.ok.x, x.ok.y, hp, x.ok.fit⟩
theorem hp (x : IsC w h s) {p : Int} (hp : 0 ≤ p ∧ p ≤ 1048600) : IsC (w.setCell ⟨h.B, 19, none⟩ (.int .u64 p)) h { s with hp := p } :=
  x.upd 19 _ (all26 (by refine ⟨?_, ?_, ?_, ?_, ?_, ?_, ?_, ?_, ?_, ?_, ?_, ?_, ?_, ?_, ?_, ?_, ?_, ?_, ?_, ?_, ?_, ?_, ?_, ?_, ?_, ?_⟩ <;> rfl)) rfl ⟨x.ok.r, hp, x.ok.x, x.ok.y, x.ok.pl, x.ok.fit⟩
theorem en (x : IsC w h s) (p : Int) : IsC (w.setCell ⟨h.B, 21, none⟩ (.int .i64 p)) h { s with e := p } :=
  x.upd 21 _ (all26 (by refine ⟨?_, ?_, ?_, ?_, ?_, ?_, ?_, ?_, ?_, ?_, ?_, ?_, ?_, ?_, ?_, ?_, ?_, ?_, ?_, ?_, ?_, ?_, ?_, ?_, ?_, ?_⟩ <;> rfl)) rfl ⟨x.ok.r, x.ok.hp, x.ok.x, x.ok.y, x.ok.pl, x.ok.fit⟩
theorem nn (x : IsC w h s) (p : Int) : IsC (w.setCell ⟨h.B, 22, none⟩ (.int .i64 p)) h { s with n := p } :=
  x.upd 22 _ (all26 (by refine ⟨?_, ?_, ?_, ?_, ?_, ?_, ?_, ?_, ?_, ?_, ?_, ?_, ?_, ?_, ?_, ?_, ?_, ?_, ?_, ?_, ?_, ?_, ?_, ?_, ?_, ?_⟩ <;> rfl)) rfl ⟨x.ok.r, x.ok.hp, x.ok.x, x.ok.y, x.ok.pl, x.ok.fit⟩
theorem fk (x : IsC w h s) (k : Int) : IsC (w.setCell ⟨h.B, 23, none⟩ (.int .i64 k)) h { s with k := k } :=
  x.upd 23 _ (all26 (by refine ⟨?_, ?_, ?_, ?_, ?_, ?_, ?_, ?_, ?_, ?_, ?_, ?_, ?_, ?_, ?_, ?_, ?_, ?_, ?_, ?_, ?_, ?_, ?_, ?_, ?_, ?_⟩ <;> rfl)) rfl ⟨x.ok.r, x.ok.hp, x.ok.x, x.ok.y, x.ok.pl, x.ok.fit⟩
theorem fx (x : IsC w h s) {p : Int} (hp : Ru.W64 p) : IsC (w.setCell ⟨h.B, 24, none⟩ (.int .u64 p)) h { s with x := p } :=
  x.upd 24 _ (all26 (by refine ⟨?_, ?_, ?_, ?_, ?_, ?_, ?_, ?_, ?_, ?_, ?_, ?_, ?_, ?_, ?_, ?_, ?_, ?_, ?_, ?_, ?_, ?_, ?_, ?_, ?_, ?_⟩ <;> rfl)) rfl ⟨x.ok.r, x.ok.hp, hp, x.ok.y, x.ok.pl, x.ok.fit⟩
theorem fy (x : IsC w h s) {p : Int} (hp : Ru.W64 p) : IsC (w.setCell ⟨h.B, 25, none⟩ (.int .u64 p)) h { s with y := p } :=
  x.upd 25 _ (all26 (by refine ⟨?_, ?_, ?_, ?_, ?_, ?_, ?_, ?_, ?_, ?_, ?_, ?_, ?_, ?_, ?_, ?_, ?_, ?_, ?_, ?_, ?_, ?_, ?_, ?_, ?_, ?_⟩ <;> rfl)) rfl ⟨x.ok.r, x.ok.hp, x.ok.x, hp, x.ok.pl, x.ok.fit⟩
/-- what was told lies elsewhere -/
theorem out (x : IsC w h s) (o : List Int) : IsC w h { s with out := o } := ⟨x.hd.congr (fun j hj => by unfold Pd.fld; rfl), x.mm, x.cd, x.cb, x.s1, x.s2, ⟨x.ok.r, x.ok.hp, x.ok.x, x.ok.y, x.ok.pl, x.ok.fit⟩⟩
/-- new memory, a draw -/
theorem kept {w' : World} (x : IsC w h s) (g : w.grownBy w' none) : IsC w' h s where
  hd := x.hd.of_block (g.block _ x.hd.lt (by simp))
  mm := x.mm.kept g (by simp) (by simp)
  cd := x.cd.grow g (fun _ _ _ _ => by simp)
  cb := x.cb
  s1 := x.s1
  s2 := x.s2
  ok := x.ok
/-- the memory's bytes are turned -/
theorem mem {w' : World} {m : Nat → Int} (x : IsC w h s) (g : w.grownBy w' (some h.D)) (hm : IsM w' h.M h.D h.S m) : IsC w' h { s with m := m } where
  hd := x.hd.of_block (g.block _ x.hd.lt (fun e => x.bd (by injection e)))
  mm := hm
  cd := x.cd.grow g (fun b off h0 e hh => (x.cb b off h0 e).2.2 (by injection hh))
  cb := x.cb
  s1 := x.s1
  s2 := x.s2
  ok := ⟨x.ok.r, x.ok.hp, x.ok.x, x.ok.y, x.ok.pl, hm.fit⟩
end IsC
/-- only a machine's own blocks are turned -/
structure Mc (h : Pd) (w : World) (w' : World) : Prop where
  os : w'.os = w.os
  tape : w'.tape = w.tape
  output : w'.output = w.output
  size : w.heap.size ≤ w'.heap.size
  block : ∀ k, k < w.heap.size → k ≠ h.B → k ≠ h.D → w'.heap[k]? = w.heap[k]?
namespace Mc
variable {h : Pd} {w w' w'' : World}
theorem refl : Mc h w w := ⟨rfl, rfl, rfl, Nat.le_refl _, fun _ _ _ _ => rfl⟩
theorem trans (a : Mc h w w') (b : Mc h w' w'') : Mc h w w'' where
  os := b.os.trans a.os
  tape := b.tape.trans a.tape
  output := b.output.trans a.output
  size := Nat.le_trans a.size b.size
  block := fun k hk h1 h2 => (b.block k (Nat.lt_of_lt_of_le hk a.size) h1 h2).trans (a.block k hk h1 h2)
theorem setB (a : Mc h w w') (k : Nat) (v : Value) : Mc h w (w'.setCell ⟨h.B, k, none⟩ v) :=
  a.trans ⟨rfl, rfl, rfl, by simp [World.setCell], fun j _ h1 _ => Below.heap_setCell _ _ _ _ h1⟩
theorem grown (a : Mc h w w') (g : w'.grownBy w'' none) : Mc h w w'' :=
  a.trans ⟨g.os, g.tape, g.output, g.size, fun j hj _ _ => g.block j hj (by simp)⟩
theorem mem (a : Mc h w w') (g : w'.grownBy w'' (some h.D)) : Mc h w w'' :=
  a.trans ⟨g.os, g.tape, g.output, g.size, fun j hj _ h1 => g.block j hj (fun e => h1 (by injection e))⟩
end Mc
/-- what a step that is stuck panics with -/
def stk : List PanicEntry := [{ v := .iface 224 (.agg #[]), recovered := false }]
end Go.Proofs.YtdklaeppcjopoaaGreat

/- The program's machine: its smallest functions. -/
namespace Go.Proofs.YtdklaeppcjopoaaGreat
open Go.RowKit
set_option linter.unusedVariables false

theorem pmust_ok (w : World) : Calls Tryz.prog 171 #[.int .i64 0] w fun r w' => r = .returned (.tuple #[]) ∧ w' = w := by
  go_enter Tryz.func171, Tryz.ntmps171
  go_wp2
  first | go_end0 | go_returns
  exact ⟨rfl, rfl⟩
theorem pmust_no (e : Int) (he : (e != 0) = true) (w : World) : Calls Tryz.prog 171 #[.int .i64 e] w fun r w' => r = .panicked stk ∧ w' = w := by
  go_enter Tryz.func171, Tryz.ntmps171
  go_wp2
  exact ⟨rfl, rfl, rfl⟩
theorem psec_any (op k : Int) (w : World) : Calls Tryz.prog 176 #[.int .i64 op, .int .i64 k] w fun r w' => r = .returned (.int .i64 (Ru.ky op k)) ∧ w' = w := by
  by_cases h1 : op = 9
  · subst h1
    go_enter Tryz.func176, Tryz.ntmps176
    go_wp2
    go_ret
    exact ⟨rfl, rfl⟩
  · have h1' : (op == 9) = false := by simpa using h1
    by_cases h2 : op = 10
    · subst h2
      go_enter Tryz.func176, Tryz.ntmps176
      go_wp2
      go_ret
      exact ⟨rfl, rfl⟩
    · have h2' : (op == 10) = false := by simpa using h2
      have e : Ru.ky op k = k := by unfold Ru.ky Wd.shB; rw [h1', h2']; rfl
      rw [e]
      go_enter Tryz.func176, Tryz.ntmps176
      go_wp2
      go_ret
      exact ⟨rfl, rfl⟩
set_option maxRecDepth 100000 in
set_option maxHeartbeats 4000000 in
theorem pbin_ok (op k x y v : Int) (hx : Ru.W64 x) (hy : Ru.W64 y) (w : World) (hF : Fl.binA op k (Wd.canon k x) (Wd.canon (Ru.ky op k) y) = (v, 0)) :
    Calls Tryz.prog 167 #[.int .i64 op, .int .i64 k, .int .u64 x, .int .u64 y] w fun r w' => r = .returned (.int .u64 v) ∧ w.grownBy w' none := by
  obtain ⟨x1, x2⟩ := hx
  obtain ⟨y1, y2⟩ := hy
  have HC : Hid (∀ W, Calls Tryz.prog 137 #[.int .i64 k, .int .u64 x] W fun e w' => e = .returned (.int .u64 (Wd.canon k x)) ∧ w' = W) := fun W => canon_any k x W x1 x2
  have HD : Hid (∀ W, Calls Tryz.prog 137 #[.int .i64 (Ru.ky op k), .int .u64 y] W fun e w' => e = .returned (.int .u64 (Wd.canon (Ru.ky op k) y)) ∧ w' = W) := fun W => canon_any _ y W y1 y2
  have c1 := Wd.canon_rng k x
  have c2 := Wd.canon_rng (Ru.ky op k) y
  have HB : Hid (∀ W, Calls Tryz.prog 175 #[.int .i64 op, .int .i64 k, .int .u64 (Wd.canon k x), .int .u64 (Wd.canon (Ru.ky op k) y)] W fun e w' => e = .returned (.tuple #[.int .u64 v, .int .i64 0]) ∧ W.grownBy w' none) := fun W => by
    refine (binA_any op k _ _ W c1.1 c1.2 c2.1 c2.2).mono ?_
    rw [hF]
    rintro r w' ⟨rfl, n, rfl⟩
    exact ⟨rfl, grown_drewN (World.grownBy.refl _ _) n⟩
  have HS : Hid (∀ W, Calls Tryz.prog 176 #[.int .i64 op, .int .i64 k] W fun r w' => r = .returned (.int .i64 (Ru.ky op k)) ∧ w' = W) := fun W => psec_any op k W
  clear hF c1 c2
  generalize Wd.canon (Ru.ky op k) y = Y at *
  generalize Wd.canon k x = X at *
  generalize Ru.ky op k = K at *
  go_enter Tryz.func167, Tryz.ntmps167
  go_wp2_with (first
    | (go_at_call 137; refine (HC.out _).mono ?_; rintro r w1 ⟨rfl, rfl⟩; clear HC)
    | (go_at_call 137; refine (HD.out _).mono ?_; rintro r w1 ⟨rfl, rfl⟩)
    | (go_at_call 176; refine (HS.out _).mono ?_; rintro r w1 ⟨rfl, rfl⟩)
    | (go_at_call 175; refine (HB.out _).mono ?_; rintro r w2 ⟨rfl, g2⟩)
    | (go_at_call 171; refine (pmust_ok _).mono ?_; rintro r w3 ⟨rfl, rfl⟩))
  go_ret
  exact ⟨rfl, g2⟩
set_option maxRecDepth 100000 in
set_option maxHeartbeats 4000000 in
theorem pbin_no (op k x y v e : Int) (hx : Ru.W64 x) (hy : Ru.W64 y) (w : World) (hF : Fl.binA op k (Wd.canon k x) (Wd.canon (Ru.ky op k) y) = (v, e)) (he : (e != 0) = true) :
    Calls Tryz.prog 167 #[.int .i64 op, .int .i64 k, .int .u64 x, .int .u64 y] w fun r w' => r = .panicked stk ∧ w.grownBy w' none := by
  obtain ⟨x1, x2⟩ := hx
  obtain ⟨y1, y2⟩ := hy
  have HC : Hid (∀ W, Calls Tryz.prog 137 #[.int .i64 k, .int .u64 x] W fun e w' => e = .returned (.int .u64 (Wd.canon k x)) ∧ w' = W) := fun W => canon_any k x W x1 x2
  have HD : Hid (∀ W, Calls Tryz.prog 137 #[.int .i64 (Ru.ky op k), .int .u64 y] W fun e w' => e = .returned (.int .u64 (Wd.canon (Ru.ky op k) y)) ∧ w' = W) := fun W => canon_any _ y W y1 y2
  have c1 := Wd.canon_rng k x
  have c2 := Wd.canon_rng (Ru.ky op k) y
  have HB : Hid (∀ W, Calls Tryz.prog 175 #[.int .i64 op, .int .i64 k, .int .u64 (Wd.canon k x), .int .u64 (Wd.canon (Ru.ky op k) y)] W fun r w' => r = .returned (.tuple #[.int .u64 v, .int .i64 e]) ∧ W.grownBy w' none) := fun W => by
    refine (binA_any op k _ _ W c1.1 c1.2 c2.1 c2.2).mono ?_
    rw [hF]
    rintro r w' ⟨rfl, n, rfl⟩
    exact ⟨rfl, grown_drewN (World.grownBy.refl _ _) n⟩
  have HS : Hid (∀ W, Calls Tryz.prog 176 #[.int .i64 op, .int .i64 k] W fun r w' => r = .returned (.int .i64 (Ru.ky op k)) ∧ w' = W) := fun W => psec_any op k W
  clear hF c1 c2
  generalize Wd.canon (Ru.ky op k) y = Y at *
  generalize Wd.canon k x = X at *
  generalize Ru.ky op k = K at *
  go_enter Tryz.func167, Tryz.ntmps167
  go_wp2_with (first
    | (go_at_call 137; refine (HC.out _).mono ?_; rintro r w1 ⟨rfl, rfl⟩; clear HC)
    | (go_at_call 137; refine (HD.out _).mono ?_; rintro r w1 ⟨rfl, rfl⟩)
    | (go_at_call 176; refine (HS.out _).mono ?_; rintro r w1 ⟨rfl, rfl⟩)
    | (go_at_call 175; refine (HB.out _).mono ?_; rintro r w2 ⟨rfl, g2⟩)
    | (go_at_call 171; refine (pmust_no e he _).mono ?_; rintro r w3 ⟨rfl, rfl⟩))
  exact ⟨rfl, rfl, g2⟩
set_option maxRecDepth 100000 in
set_option maxHeartbeats 4000000 in
theorem pun_ok (op k x v : Int) (hx : Ru.W64 x) (w : World) (hF : Wd.unI op k (Wd.canon k x) = (v, 0)) :
    Calls Tryz.prog 168 #[.int .i64 op, .int .i64 k, .int .u64 x] w fun r w' => r = .returned (.int .u64 v) ∧ w.grownBy w' none := by
  obtain ⟨x1, x2⟩ := hx
  have c1 := Wd.canon_rng k x
  have HU : Hid (∀ W, Calls Tryz.prog 177 #[.int .i64 op, .int .i64 k, .int .u64 (Wd.canon k x)] W fun r w' => r = .returned (.tuple #[.int .u64 v, .int .i64 0]) ∧ w' = W) := fun W => by
    have := un_any op k _ W c1.1 c1.2
    rw [hF] at this
    exact this
  clear hF c1
  go_enter Tryz.func168, Tryz.ntmps168
  go_wp2_with (first
    | (go_at_call 137; refine (canon_any k x _ x1 x2).mono ?_; rintro r w1 ⟨rfl, rfl⟩)
    | (go_at_call 177; refine (HU.out _).mono ?_; rintro r w2 ⟨rfl, rfl⟩)
    | (go_at_call 171; refine (pmust_ok _).mono ?_; rintro r w3 ⟨rfl, rfl⟩))
  go_ret
  exact ⟨rfl, World.grownBy.refl _ _⟩
set_option maxRecDepth 100000 in
set_option maxHeartbeats 4000000 in
theorem pun_no (op k x v e : Int) (hx : Ru.W64 x) (w : World) (hF : Wd.unI op k (Wd.canon k x) = (v, e)) (he : (e != 0) = true) :
    Calls Tryz.prog 168 #[.int .i64 op, .int .i64 k, .int .u64 x] w fun r w' => r = .panicked stk ∧ w.grownBy w' none := by
  obtain ⟨x1, x2⟩ := hx
  have c1 := Wd.canon_rng k x
  have HU : Hid (∀ W, Calls Tryz.prog 177 #[.int .i64 op, .int .i64 k, .int .u64 (Wd.canon k x)] W fun r w' => r = .returned (.tuple #[.int .u64 v, .int .i64 e]) ∧ w' = W) := fun W => by
    have := un_any op k _ W c1.1 c1.2
    rw [hF] at this
    exact this
  clear hF c1
  go_enter Tryz.func168, Tryz.ntmps168
  go_wp2_with (first
    | (go_at_call 137; refine (canon_any k x _ x1 x2).mono ?_; rintro r w1 ⟨rfl, rfl⟩)
    | (go_at_call 177; refine (HU.out _).mono ?_; rintro r w2 ⟨rfl, rfl⟩)
    | (go_at_call 171; refine (pmust_no e he _).mono ?_; rintro r w3 ⟨rfl, rfl⟩))
  exact ⟨rfl, rfl, World.grownBy.refl _ _⟩
set_option maxRecDepth 100000 in
set_option maxHeartbeats 4000000 in
theorem pconv_ok (f t x v : Int) (hx : Ru.W64 x) (w : World) (hF : Fl.convA f t (Wd.canon f x) = (v, 0)) :
    Calls Tryz.prog 178 #[.int .i64 f, .int .i64 t, .int .u64 x] w fun r w' => r = .returned (.int .u64 v) ∧ w.grownBy w' none := by
  obtain ⟨x1, x2⟩ := hx
  have c1 := Wd.canon_rng f x
  have HU : Hid (∀ W, Calls Tryz.prog 193 #[.int .i64 f, .int .i64 t, .int .u64 (Wd.canon f x)] W fun r w' => r = .returned (.tuple #[.int .u64 v, .int .i64 0]) ∧ w' = W) := fun W => by
    have := conv_any f t _ W c1.1 c1.2
    rw [hF] at this
    exact this
  clear hF c1
  go_enter Tryz.func178, Tryz.ntmps178
  go_wp2_with (first
    | (go_at_call 137; refine (canon_any f x _ x1 x2).mono ?_; rintro r w1 ⟨rfl, rfl⟩)
    | (go_at_call 193; refine (HU.out _).mono ?_; rintro r w2 ⟨rfl, rfl⟩)
    | (go_at_call 171; refine (pmust_ok _).mono ?_; rintro r w3 ⟨rfl, rfl⟩))
  go_ret
  exact ⟨rfl, World.grownBy.refl _ _⟩
set_option maxRecDepth 100000 in
set_option maxHeartbeats 4000000 in
theorem pconv_no (f t x v e : Int) (hx : Ru.W64 x) (w : World) (hF : Fl.convA f t (Wd.canon f x) = (v, e)) (he : (e != 0) = true) :
    Calls Tryz.prog 178 #[.int .i64 f, .int .i64 t, .int .u64 x] w fun r w' => r = .panicked stk ∧ w.grownBy w' none := by
  obtain ⟨x1, x2⟩ := hx
  have c1 := Wd.canon_rng f x
  have HU : Hid (∀ W, Calls Tryz.prog 193 #[.int .i64 f, .int .i64 t, .int .u64 (Wd.canon f x)] W fun r w' => r = .returned (.tuple #[.int .u64 v, .int .i64 e]) ∧ w' = W) := fun W => by
    have := conv_any f t _ W c1.1 c1.2
    rw [hF] at this
    exact this
  clear hF c1
  go_enter Tryz.func178, Tryz.ntmps178
  go_wp2_with (first
    | (go_at_call 137; refine (canon_any f x _ x1 x2).mono ?_; rintro r w1 ⟨rfl, rfl⟩)
    | (go_at_call 193; refine (HU.out _).mono ?_; rintro r w2 ⟨rfl, rfl⟩)
    | (go_at_call 171; refine (pmust_no e he _).mono ?_; rintro r w3 ⟨rfl, rfl⟩))
  exact ⟨rfl, rfl, World.grownBy.refl _ _⟩
end Go.Proofs.YtdklaeppcjopoaaGreat

/- The program's machine: its end, jumps, memory. -/
namespace Go.Proofs.YtdklaeppcjopoaaGreat
open Go.RowKit
set_option linter.unusedVariables false

theorem pfinish {w : World} {h : Pd} {s : Ru.St} (x : IsC w h s) (e n : Int) :
    Calls Tryz.prog 65 #[.pointer (some ⟨h.B, 0, none⟩), .int .i64 e, .int .i64 n] w fun r w' => r = .returned (.tuple #[]) ∧ IsC w' h { s with e := e, n := n } ∧ Mc h w w' := by
  have HX : Hid (IsC w h s) := x
  have c21 := x.c21
  have c22 := x.c22
  have f21 := x.fz 21
  have f22 := x.fz 22
  clear x
  go_enter Tryz.func65, Tryz.ntmps65
  go_wp2
  first | go_end0 | go_returns
  exact ⟨rfl, (HX.out.en e).nn n, (Mc.refl.setB _ _).setB _ _⟩
theorem wr_add (p n : Int) : IntKind.u64.wrap (Ru.wr p + IntKind.u64.wrap n) = Ru.wr (Wd.sg (p + n)) := by
  simp only [IntKind.wrap_u64]
  unfold Ru.wr Wd.sg
  omega
theorem pjump {w : World} {h : Pd} {s : Ru.St} (x : IsC w h s) (n : Int) :
    Calls Tryz.prog 169 #[.pointer (some ⟨h.B, 0, none⟩), .int .i64 n] w fun r w' => r = .returned (.tuple #[]) ∧ IsC w' h (s.goto (s.pl + n)) ∧ Mc h w w' := by
  have HX : Hid (IsC w h s) := x
  have c1 := x.c1
  have f1 := x.fz 1
  have HP : Hid (IsC (w.setCell ⟨h.B, 1, none⟩ (.int .u64 (Ru.wr (Wd.sg (s.pl + n))))) h (s.goto (s.pl + n))) := x.pl (Ru.sg_b _)
  rw [← wr_add] at HP
  clear x
  go_enter Tryz.func169, Tryz.ntmps169
  go_wp2
  first | go_end0 | go_returns
  exact ⟨rfl, HP.out, Mc.refl.setB _ _⟩
theorem pload_ok {w : World} {h : Pd} {s : Ru.St} (x : IsC w h s) (a k v : Int) (ha : Ru.W64 a) (hv : Mm.lV h.S s.m k a = v) (he : Mm.lE h.S k a = 0) :
    Calls Tryz.prog 179 #[.pointer (some ⟨h.B, 0, none⟩), .int .u64 a, .int .i64 k] w fun r w' => r = .returned (.int .u64 v) ∧ w.grownBy w' none := by
  have c18 := x.c18
  have HL : Hid (Calls Tryz.prog 112 #[.pointer (some ⟨h.M, 0, none⟩), .int .u64 a, .int .i64 k] w fun r w' => r = .returned (.tuple #[.int .u64 v, .int .i64 0]) ∧ w' = w) := by
    have := load_any h.M h.D h.S s.m a k w x.mm x.s2 ha.1 ha.2
    rw [hv, he] at this
    exact this
  clear x hv he
  go_enter Tryz.func179, Tryz.ntmps179
  go_wp2_with (first
    | (go_at_call 112; refine HL.out.mono ?_; rintro r w1 ⟨rfl, rfl⟩)
    | (go_at_call 171; refine (pmust_ok _).mono ?_; rintro r w3 ⟨rfl, rfl⟩))
  go_ret
  exact ⟨rfl, World.grownBy.refl _ _⟩
theorem pload_no {w : World} {h : Pd} {s : Ru.St} (x : IsC w h s) (a k : Int) (ha : Ru.W64 a) (he : (Mm.lE h.S k a != 0) = true) :
    Calls Tryz.prog 179 #[.pointer (some ⟨h.B, 0, none⟩), .int .u64 a, .int .i64 k] w fun r w' => r = .panicked stk ∧ w.grownBy w' none := by
  have c18 := x.c18
  have HL : Hid (Calls Tryz.prog 112 #[.pointer (some ⟨h.M, 0, none⟩), .int .u64 a, .int .i64 k] w fun r w' => r = .returned (.tuple #[.int .u64 (Mm.lV h.S s.m k a), .int .i64 (Mm.lE h.S k a)]) ∧ w' = w) := load_any h.M h.D h.S s.m a k w x.mm x.s2 ha.1 ha.2
  generalize Mm.lV h.S s.m k a = v at *
  generalize Mm.lE h.S k a = e at *
  clear x
  go_enter Tryz.func179, Tryz.ntmps179
  go_wp2_with (first
    | (go_at_call 112; refine HL.out.mono ?_; rintro r w1 ⟨rfl, rfl⟩)
    | (go_at_call 171; refine (pmust_no e he _).mono ?_; rintro r w3 ⟨rfl, rfl⟩))
  exact ⟨rfl, rfl, World.grownBy.refl _ _⟩
end Go.Proofs.YtdklaeppcjopoaaGreat

/- The program's machine: store, alloc, call. -/
namespace Go.Proofs.YtdklaeppcjopoaaGreat
open Go.RowKit
set_option linter.unusedVariables false

namespace Mm
theorem is_canon {k : Int} (h : Wd.wordB k = true) (x : Int) : Wd.isB k (Wd.canon k x) = true := by
  unfold Wd.isB
  unfold Wd.wordB at h
  rw [Wd.canon_canon, beq_self_eq_true, Bool.and_true]
  exact h
theorem sE_canon (S : Nat) (k a x : Int) : sE S k a (Wd.canon k x) = lE S k a := by
  unfold sE lE
  cases h : Wd.wordB k
  · rfl
  · rw [is_canon h]; rfl
theorem sM_canon (S : Nat) (m : Nat → Int) (k a x : Int) : sM S m k a (Wd.canon k x) = if lE S k a = 0 then pt m a.toNat (Wd.by' k).toNat (by8 (Wd.canon k x)) else m := by
  unfold sM lE
  cases h : Wd.wordB k
  · rfl
  · rw [is_canon h]
    cases hasB S a (Wd.by' k) <;> rfl
end Mm
set_option maxRecDepth 100000 in
set_option maxHeartbeats 4000000 in
theorem pstore_ok {w : World} {h : Pd} {s : Ru.St} (x : IsC w h s) (a k y : Int) (ha : Ru.W64 a) (hy : Ru.W64 y) (he : Mm.lE h.S k a = 0) :
    Calls Tryz.prog 180 #[.pointer (some ⟨h.B, 0, none⟩), .int .u64 a, .int .i64 k, .int .u64 y] w fun r w' => r = .returned (.tuple #[]) ∧ IsC w' h (s.lay h.S a k y) ∧ Mc h w w' := by
  have x1 := x.kept (grown_drew (World.grownBy.refl w none))
  have HV : Hid (Mc h w w.drew) := Mc.refl.grown (grown_drew (World.grownBy.refl w none))
  have hc := Wd.canon_rng k y
  have es : s.lay h.S a k y = { s with m := Mm.pt s.m a.toNat (Wd.by' k).toNat (Mm.by8 (Wd.canon k y)) } := by unfold Ru.St.lay; rw [if_pos he]
  rw [es]
  have HS : Hid (∀ W, IsC W h s → Calls Tryz.prog 194 #[.pointer (some ⟨h.M, 0, none⟩), .int .u64 a, .int .i64 k, .int .u64 (Wd.canon k y)] W fun r w' => r = .returned (.int .i64 0) ∧ IsM w' h.M h.D h.S (Mm.pt s.m a.toNat (Wd.by' k).toNat (Mm.by8 (Wd.canon k y))) ∧ W.grownBy w' (some h.D)) := fun W hW => by
    have := store_any h.M h.D h.S s.m a k (Wd.canon k y) W hW.mm hW.s2 ha.1 ha.2 hc.1 hc.2
    rw [Mm.sE_canon, Mm.sM_canon, he, if_pos rfl] at this
    exact this
  have HC : Hid (∀ W, Calls Tryz.prog 137 #[.int .i64 k, .int .u64 y] W fun e w' => e = .returned (.int .u64 (Wd.canon k y)) ∧ w' = W) := fun W => canon_any k y W hy.1 hy.2
  generalize Wd.canon k y = Y at *
  have HX : Hid (IsC w.drew h s) := x1
  have c18 := x1.c18
  clear x x1 he hc es
  go_enter Tryz.func180, Tryz.ntmps180
  go_wp2_with fail
  refine tail_quiet 9 (by kernel_rfl) (by kernel_rfl) ?_
  generalize w.drew = W at *
  simp only [List.take_succ_cons, List.take_zero, List.drop_succ_cons, List.drop_zero]
  repeat (go_big_quiet_step (first | exact rfl | (exact HC.out _ _)))
  refine wpQuiet_nil ?_
  go_wp2_with (first
    | (go_at_call 194; refine (HS.out _ HX.out).mono ?_; rintro r w1 ⟨rfl, hm1, g1⟩)
    | (go_at_call 171; refine (pmust_ok _).mono ?_; rintro r w3 ⟨rfl, rfl⟩))
  first | go_end0 | go_returns
  exact ⟨rfl, HX.out.mem g1 hm1, HV.out.mem g1⟩
set_option maxRecDepth 100000 in
set_option maxHeartbeats 4000000 in
theorem pstore_no {w : World} {h : Pd} {s : Ru.St} (x : IsC w h s) (a k y : Int) (ha : Ru.W64 a) (hy : Ru.W64 y) (he : (Mm.lE h.S k a != 0) = true) :
    Calls Tryz.prog 180 #[.pointer (some ⟨h.B, 0, none⟩), .int .u64 a, .int .i64 k, .int .u64 y] w fun r w' => r = .panicked stk ∧ IsC w' h s ∧ Mc h w w' := by
  have x1 := x.kept (grown_drew (World.grownBy.refl w none))
  have HV : Hid (Mc h w w.drew) := Mc.refl.grown (grown_drew (World.grownBy.refl w none))
  have hc := Wd.canon_rng k y
  have he0 : Mm.lE h.S k a ≠ 0 := by simpa using he
  have HS : Hid (∀ W, IsC W h s → Calls Tryz.prog 194 #[.pointer (some ⟨h.M, 0, none⟩), .int .u64 a, .int .i64 k, .int .u64 (Wd.canon k y)] W fun r w' => r = .returned (.int .i64 (Mm.lE h.S k a)) ∧ IsM w' h.M h.D h.S s.m ∧ W.grownBy w' (some h.D)) := fun W hW => by
    have := store_any h.M h.D h.S s.m a k (Wd.canon k y) W hW.mm hW.s2 ha.1 ha.2 hc.1 hc.2
    rw [Mm.sE_canon, Mm.sM_canon, if_neg he0] at this
    exact this
  have HC : Hid (∀ W, Calls Tryz.prog 137 #[.int .i64 k, .int .u64 y] W fun e w' => e = .returned (.int .u64 (Wd.canon k y)) ∧ w' = W) := fun W => canon_any k y W hy.1 hy.2
  generalize Wd.canon k y = Y at *
  generalize Mm.lE h.S k a = E at *
  have HX : Hid (IsC w.drew h s) := x1
  have c18 := x1.c18
  clear x x1 hc he0
  go_enter Tryz.func180, Tryz.ntmps180
  go_wp2_with fail
  refine tail_quiet 9 (by kernel_rfl) (by kernel_rfl) ?_
  generalize w.drew = W at *
  simp only [List.take_succ_cons, List.take_zero, List.drop_succ_cons, List.drop_zero]
  repeat (go_big_quiet_step (first | exact rfl | (exact HC.out _ _)))
  refine wpQuiet_nil ?_
  go_wp2_with (first
    | (go_at_call 194; refine (HS.out _ HX.out).mono ?_; rintro r w1 ⟨rfl, hm1, g1⟩)
    | (go_at_call 171; refine (pmust_no E he _).mono ?_; rintro r w3 ⟨rfl, rfl⟩))
  exact ⟨rfl, rfl, HX.out.mem g1 hm1, HV.out.mem g1⟩
/-- the next multiple of 8 as it is reckoned -/
def rup (n : Int) : Int := IntKind.u64.wrap (IntKind.u64.wrap ((IntKind.u64.wrap (IntKind.u64.wrap (n + 8) - 1)).tdiv 8) * 8)
theorem rup_eq (n : Int) : rup n = (n + 7) % 18446744073709551616 / 8 * 8 := by
  unfold rup
  simp only [IntKind.wrap_u64]
  have e : ((n + 8) % 18446744073709551616 - 1) % 18446744073709551616 = (n + 7) % 18446744073709551616 := by omega
  rw [e, Int.tdiv_eq_ediv_of_nonneg (by omega)]
  omega
theorem pround (n : Int) (w : World) (h1 : 0 ≤ n) (h2 : n < 18446744073709551616) : Calls Tryz.prog 50 #[.int .u64 n] w fun r w' => r = .returned (.tuple #[.int .u64 (rup n), .bool (decide (n ≤ rup n))]) ∧ w' = w := by
  go_enter Tryz.func50, Tryz.ntmps50
  go_wp2
  go_returns
  exact ⟨rfl, rfl⟩
set_option maxRecDepth 100000 in
set_option maxHeartbeats 4000000 in
theorem palloc_stop {w : World} {h : Pd} {s : Ru.St} (x : IsC w h s) {a : Nat} (ha : a < 16) (n U : Int) (b : Bool) (n1 : 1 ≤ n) (n2 : n < 18446744073709551616) (u1 : 0 ≤ U) (u2 : U < 18446744073709551616)
    (HR : Hid (∀ W, Calls Tryz.prog 50 #[.int .u64 n] W fun r w' => r = .returned (.tuple #[.int .u64 U, .bool b]) ∧ w' = W))
    (hU : b = false ∨ (b = true ∧ 1048576 < U) ∨ (b = true ∧ U ≤ 1048576 ∧ (h.S : Int) - 4096 < s.hp + U)) :
    Calls Tryz.prog 181 #[.pointer (some ⟨h.B, 0, none⟩), .int .i64 a, .int .u64 n] w fun r w' => r = .returned (.tuple #[]) ∧ IsC w' h { s with e := 4, n := 0 } ∧ Mc h w w' := by
  obtain ⟨p1, p2⟩ := x.ok.hp
  have s1 := x.s1
  have s2 := x.s2
  have HX : Hid (IsC w h s) := x
  have c19 := x.c19
  have c20 := x.c20
  have HD : Hid (∀ d, IsC (w.drewN d) h s ∧ Mc h w (w.drewN d)) := fun d => ⟨HX.out.kept (grown_drewN (World.grownBy.refl w none) d), Mc.refl.grown (grown_drewN (World.grownBy.refl w none) d)⟩
  clear x
  have hU' : (b = false) ∨ (b = true ∧ decide (1048576 < U) = true) ∨ (b = true ∧ decide (1048576 < U) = false ∧ decide ((h.S : Int) - 4096 < IntKind.u64.wrap (s.hp + U)) = true) := by
    rcases hU with rfl | ⟨rfl, hU⟩ | ⟨rfl, hU, hV⟩
    · exact .inl rfl
    · exact .inr (.inl ⟨rfl, decide_eq_true hU⟩)
    · refine .inr (.inr ⟨rfl, decide_eq_false (by omega), decide_eq_true ?_⟩)
      rw [IntKind.wrap_u64]
      omega
  clear hU
  rcases hU' with rfl | ⟨rfl, hU⟩ | ⟨rfl, hU, hV⟩
  all_goals
    go_enter Tryz.func181, Tryz.ntmps181
    go_wp2_with (go_at_call 50; refine (HR.out _).mono ?_; rintro r w1 ⟨rfl, hw1⟩; rw [hw1]; clear hw1 w1)
    go_quiet (fail)
    go_wp2_with (go_at_call 65; refine (pfinish (HD.out _).1 4 0).mono ?_; rintro r w2 ⟨rfl, x2, v2⟩)
    first | go_end0 | go_returns
    exact ⟨rfl, x2, (HD.out _).2.trans v2⟩
set_option maxRecDepth 100000 in
set_option maxHeartbeats 4000000 in
theorem palloc_go {w : World} {h : Pd} {s : Ru.St} (x : IsC w h s) {a : Nat} (ha : a < 16) (n U : Int) (n1 : 1 ≤ n) (n2 : n < 18446744073709551616) (u1 : 0 ≤ U) (u2 : U ≤ 1048576)
    (HR : Hid (∀ W, Calls Tryz.prog 50 #[.int .u64 n] W fun r w' => r = .returned (.tuple #[.int .u64 U, .bool true]) ∧ w' = W))
    (hU : s.hp + U ≤ (h.S : Int) - 4096) :
    Calls Tryz.prog 181 #[.pointer (some ⟨h.B, 0, none⟩), .int .i64 a, .int .u64 n] w fun r w' => r = .returned (.tuple #[]) ∧ IsC w' h { s.put a s.hp with hp := s.hp + U } ∧ Mc h w w' := by
  obtain ⟨p1, p2⟩ := x.ok.hp
  have s1 := x.s1
  have s2 := x.s2
  have HX : Hid (IsC w h s) := x
  have c19 := x.c19
  have c20 := x.c20
  have ha' : (a : Int) < 16 := by omega
  have d1 : decide (1048576 < U) = false := decide_eq_false (by omega)
  have d2 : IntKind.u64.wrap (s.hp + U) = s.hp + U := by rw [IntKind.wrap_u64]; omega
  have d3 : decide ((h.S : Int) - 4096 < s.hp + U) = false := decide_eq_false (by omega)
  have d4 : decide ((h.S : Int) - 4096 < IntKind.u64.wrap (s.hp + U)) = false := by rw [d2]; exact d3
  have HD : Hid (∀ d, IsC (w.drewN d) h s ∧ Mc h w (w.drewN d)) := fun d => ⟨HX.out.kept (grown_drewN (World.grownBy.refl w none) d), Mc.refl.grown (grown_drewN (World.grownBy.refl w none) d)⟩
  clear x
  go_enter Tryz.func181, Tryz.ntmps181
  go_wp2_with (go_at_call 50; refine (HR.out _).mono ?_; rintro r w1 ⟨rfl, hw1⟩; rw [hw1]; clear hw1 w1)
  go_quiet (fail)
  obtain ⟨x1, v1⟩ := HD.out nq
  clear c19 c20 HD HX
  generalize w.drewN nq = W1 at *
  go_wp2
  refine tail_quiet 9 (by kernel_rfl) (by kernel_rfl) ?_
  have HX5 : Hid (IsC W1.drew h s) := x1.kept (grown_drew (World.grownBy.refl _ none))
  have V5 : Mc h w W1.drew := v1.grown (grown_drew (World.grownBy.refl _ none))
  clear x1 v1
  generalize W1.drew = W5 at *
  have c19 := HX5.out.c19
  have ra := HX5.out.rc ha
  have rf := HX5.out.fz (2 + a)
  simp only [List.take_succ_cons, List.take_zero, List.drop_succ_cons, List.drop_zero]
  repeat (go_big_quiet_step (exact rfl))
  refine wpQuiet_nil ?_
  have X5 := HX5.out.put ha (y := s.hp) ⟨p1, by omega⟩
  have e8 : (W5.setCell ⟨h.B, 2 + a, none⟩ (.int .u64 s.hp)).cell? ⟨h.B, 19, none⟩ = some (.int .u64 s.hp) := X5.c19
  have g8 := X5.fz 19
  have HX6 : Hid (IsC ((W5.setCell ⟨h.B, 2 + a, none⟩ (.int .u64 s.hp)).setCell ⟨h.B, 19, none⟩ (.int .u64 (s.hp + U))) h { s.put a s.hp with hp := s.hp + U }) := X5.hp (p := s.hp + U) (by omega)
  have HV6 : Hid (Mc h w ((W5.setCell ⟨h.B, 2 + a, none⟩ (.int .u64 s.hp)).setCell ⟨h.B, 19, none⟩ (.int .u64 (s.hp + U)))) := (V5.setB _ _).setB _ _
  clear X5 V5
  go_wp2
  first | go_end0 | go_returns
  exact ⟨rfl, HX6.out, HV6.out⟩
set_option maxRecDepth 100000 in
set_option maxHeartbeats 4000000 in
theorem palloc_stop0 {w : World} {h : Pd} {s : Ru.St} (x : IsC w h s) {a : Nat} (ha : a < 16) (n U : Int) (b : Bool) (hn : n = 0) (u1 : 0 ≤ U) (u2 : U < 18446744073709551616)
    (HR : Hid (∀ W, Calls Tryz.prog 50 #[.int .u64 1] W fun r w' => r = .returned (.tuple #[.int .u64 U, .bool b]) ∧ w' = W))
    (hU : b = false ∨ (b = true ∧ 1048576 < U) ∨ (b = true ∧ U ≤ 1048576 ∧ (h.S : Int) - 4096 < s.hp + U)) :
    Calls Tryz.prog 181 #[.pointer (some ⟨h.B, 0, none⟩), .int .i64 a, .int .u64 n] w fun r w' => r = .returned (.tuple #[]) ∧ IsC w' h { s with e := 4, n := 0 } ∧ Mc h w w' := by
  obtain ⟨p1, p2⟩ := x.ok.hp
  have s1 := x.s1
  have s2 := x.s2
  have HX : Hid (IsC w h s) := x
  have c19 := x.c19
  have c20 := x.c20
  have HD : Hid (∀ d, IsC (w.drewN d) h s ∧ Mc h w (w.drewN d)) := fun d => ⟨HX.out.kept (grown_drewN (World.grownBy.refl w none) d), Mc.refl.grown (grown_drewN (World.grownBy.refl w none) d)⟩
  clear x
  subst hn
  have hU' : (b = false) ∨ (b = true ∧ decide (1048576 < U) = true) ∨ (b = true ∧ decide (1048576 < U) = false ∧ decide ((h.S : Int) - 4096 < IntKind.u64.wrap (s.hp + U)) = true) := by
    rcases hU with rfl | ⟨rfl, hU⟩ | ⟨rfl, hU, hV⟩
    · exact .inl rfl
    · exact .inr (.inl ⟨rfl, decide_eq_true hU⟩)
    · refine .inr (.inr ⟨rfl, decide_eq_false (by omega), decide_eq_true ?_⟩)
      rw [IntKind.wrap_u64]
      omega
  clear hU
  rcases hU' with rfl | ⟨rfl, hU⟩ | ⟨rfl, hU, hV⟩
  all_goals
    go_enter Tryz.func181, Tryz.ntmps181
    go_wp2_with (go_at_call 50; refine (HR.out _).mono ?_; rintro r w1 ⟨rfl, hw1⟩; rw [hw1]; clear hw1 w1)
    go_quiet (fail)
    go_wp2_with (go_at_call 65; refine (pfinish (HD.out _).1 4 0).mono ?_; rintro r w2 ⟨rfl, x2, v2⟩)
    first | go_end0 | go_returns
    exact ⟨rfl, x2, (HD.out _).2.trans v2⟩
set_option maxRecDepth 100000 in
set_option maxHeartbeats 4000000 in
theorem palloc_go0 {w : World} {h : Pd} {s : Ru.St} (x : IsC w h s) {a : Nat} (ha : a < 16) (n U : Int) (hn : n = 0) (u1 : 0 ≤ U) (u2 : U ≤ 1048576)
    (HR : Hid (∀ W, Calls Tryz.prog 50 #[.int .u64 1] W fun r w' => r = .returned (.tuple #[.int .u64 U, .bool true]) ∧ w' = W))
    (hU : s.hp + U ≤ (h.S : Int) - 4096) :
    Calls Tryz.prog 181 #[.pointer (some ⟨h.B, 0, none⟩), .int .i64 a, .int .u64 n] w fun r w' => r = .returned (.tuple #[]) ∧ IsC w' h { s.put a s.hp with hp := s.hp + U } ∧ Mc h w w' := by
  obtain ⟨p1, p2⟩ := x.ok.hp
  have s1 := x.s1
  have s2 := x.s2
  have HX : Hid (IsC w h s) := x
  have c19 := x.c19
  have c20 := x.c20
  have ha' : (a : Int) < 16 := by omega
  have d1 : decide (1048576 < U) = false := decide_eq_false (by omega)
  have d2 : IntKind.u64.wrap (s.hp + U) = s.hp + U := by rw [IntKind.wrap_u64]; omega
  have d3 : decide ((h.S : Int) - 4096 < s.hp + U) = false := decide_eq_false (by omega)
  have d4 : decide ((h.S : Int) - 4096 < IntKind.u64.wrap (s.hp + U)) = false := by rw [d2]; exact d3
  have HD : Hid (∀ d, IsC (w.drewN d) h s ∧ Mc h w (w.drewN d)) := fun d => ⟨HX.out.kept (grown_drewN (World.grownBy.refl w none) d), Mc.refl.grown (grown_drewN (World.grownBy.refl w none) d)⟩
  clear x
  subst hn
  go_enter Tryz.func181, Tryz.ntmps181
  go_wp2_with (go_at_call 50; refine (HR.out _).mono ?_; rintro r w1 ⟨rfl, hw1⟩; rw [hw1]; clear hw1 w1)
  go_quiet (fail)
  obtain ⟨x1, v1⟩ := HD.out nq
  clear c19 c20 HD HX
  generalize w.drewN nq = W1 at *
  go_wp2
  refine tail_quiet 9 (by kernel_rfl) (by kernel_rfl) ?_
  have HX5 : Hid (IsC W1.drew h s) := x1.kept (grown_drew (World.grownBy.refl _ none))
  have V5 : Mc h w W1.drew := v1.grown (grown_drew (World.grownBy.refl _ none))
  clear x1 v1
  generalize W1.drew = W5 at *
  have c19 := HX5.out.c19
  have ra := HX5.out.rc ha
  have rf := HX5.out.fz (2 + a)
  simp only [List.take_succ_cons, List.take_zero, List.drop_succ_cons, List.drop_zero]
  repeat (go_big_quiet_step (exact rfl))
  refine wpQuiet_nil ?_
  have X5 := HX5.out.put ha (y := s.hp) ⟨p1, by omega⟩
  have e8 : (W5.setCell ⟨h.B, 2 + a, none⟩ (.int .u64 s.hp)).cell? ⟨h.B, 19, none⟩ = some (.int .u64 s.hp) := X5.c19
  have g8 := X5.fz 19
  have HX6 : Hid (IsC ((W5.setCell ⟨h.B, 2 + a, none⟩ (.int .u64 s.hp)).setCell ⟨h.B, 19, none⟩ (.int .u64 (s.hp + U))) h { s.put a s.hp with hp := s.hp + U }) := X5.hp (p := s.hp + U) (by omega)
  have HV6 : Hid (Mc h w ((W5.setCell ⟨h.B, 2 + a, none⟩ (.int .u64 s.hp)).setCell ⟨h.B, 19, none⟩ (.int .u64 (s.hp + U)))) := (V5.setB _ _).setB _ _
  clear X5 V5
  go_wp2
  first | go_end0 | go_returns
  exact ⟨rfl, HX6.out, HV6.out⟩

theorem palloc {w : World} {h : Pd} {s : Ru.St} (x : IsC w h s) (he : s.e = 0) {a : Nat} (ha : a < 16) (n : Int) (hn : Ru.W64 n) :
    Calls Tryz.prog 181 #[.pointer (some ⟨h.B, 0, none⟩), .int .i64 a, .int .u64 n] w fun r w' => r = .returned (.tuple #[]) ∧ IsC w' h (s.alloc h.im a n) ∧ Mc h w w' := by
  obtain ⟨n1, n2⟩ := hn
  have hst : ∀ e m, s.stop e m = { s with e := e, n := m } := fun e m => by unfold Ru.St.stop; rw [if_pos he]
  have hl : h.im.lim = h.S - 4096 := rfl
  unfold Ru.St.alloc
  rw [hl]
  by_cases h0 : n = 0
  · have eu : Ru.up n = 0 := by rw [h0]; rfl
    have er : rup 1 = 8 := by rw [rup_eq]; rfl
    have HR : Hid (∀ W, Calls Tryz.prog 50 #[.int .u64 1] W fun r w' => r = .returned (.tuple #[.int .u64 8, .bool true]) ∧ w' = W) := fun W => by
      have := pround 1 W (by omega) (by omega)
      rw [er] at this
      exact this
    rw [if_neg (by omega), eu, if_pos rfl]
    by_cases c : (h.S : Int) - 4096 < s.hp + 8
    · rw [if_pos c, hst]
      exact palloc_stop0 x ha n 8 true h0 (by omega) (by omega) HR (.inr (.inr ⟨rfl, by omega, c⟩))
    · rw [if_neg c]
      exact palloc_go0 x ha n 8 h0 (by omega) (by omega) HR (by omega)
  · have er := rup_eq n
    have HR : Hid (∀ W, Calls Tryz.prog 50 #[.int .u64 n] W fun r w' => r = .returned (.tuple #[.int .u64 (rup n), .bool (decide (n ≤ rup n))]) ∧ w' = W) := fun W => pround n W n1 n2
    by_cases c1 : 1048576 < n
    · rw [if_pos c1, hst]
      refine palloc_stop x ha n (rup n) _ (by omega) n2 (by omega) (by omega) HR ?_
      by_cases c : n ≤ rup n
      · exact .inr (.inl ⟨decide_eq_true c, by omega⟩)
      · exact .inl (decide_eq_false c)
    · have eu : Ru.up n = rup n := by unfold Ru.up; omega
      have ed : decide (n ≤ rup n) = true := decide_eq_true (by omega)
      rw [ed] at HR
      have e3 : (if rup n = 0 then (8 : Int) else rup n) = rup n := if_neg (by omega)
      rw [if_neg c1, eu, e3]
      by_cases c : (h.S : Int) - 4096 < s.hp + rup n
      · rw [if_pos c, hst]
        exact palloc_stop x ha n (rup n) true (by omega) n2 (by omega) (by omega) HR (.inr (.inr ⟨rfl, by omega, c⟩))
      · rw [if_neg c]
        exact palloc_go x ha n (rup n) (by omega) n2 (by omega) (by omega) HR (by omega)
end Go.Proofs.YtdklaeppcjopoaaGreat

/- Ranges of what words' operations tell. -/
namespace Go.Proofs.YtdklaeppcjopoaaGreat
open Go.RowKit
set_option linter.unusedVariables false

namespace Ru
theorem tr_w (b : Bool) : W64 (Wd.tr b) := by cases b <;> exact ⟨by decide, by decide⟩
theorem cmp_w' (op a b : Int) : W64 (Wd.cmpI op a b) := by
  unfold Wd.cmpI
  repeat' split
  all_goals first | exact tr_w _ | exact ⟨by decide, by decide⟩
theorem bu_w (op k x y : Int) : W64 (Wd.bu op k x y) := by
  unfold Wd.bu
  repeat' split
  all_goals first | exact Wd.canon_rng _ _ | exact cmp_w' _ _ _
theorem bs_w (op k x y : Int) : W64 (Wd.bs op k x y) := by
  unfold Wd.bs
  repeat' split
  all_goals first | exact Wd.canon_rng _ _ | exact cmp_w' _ _ _ | exact bu_w _ _ _ _ | (unfold W64; omega)
theorem bin_w (op k x y : Int) : W64 (Fl.binA op k x y).1 := by
  unfold Fl.binA
  split
  · exact Fl.bv_rng
  · unfold Wd.binI
    repeat' split
    all_goals first | exact bs_w _ _ _ _ | exact bu_w _ _ _ _ | exact ⟨by decide, by decide⟩
theorem un_w {op k x : Int} (hx : W64 x) : W64 (Wd.unI op k x).1 := by
  unfold Wd.unI
  split
  · exact ⟨by decide, by decide⟩
  · rename_i h1
    split
    · exact ⟨by decide, by decide⟩
    · rename_i h2
      split
      · rename_i h3
        subst h3
        have hk : k = 1 := by
          simp only [Wd.hasUnB, Bool.not_eq_false] at h1
          simpa using h1
        subst hk
        have h4 : Wd.canon 1 x = x := by
          simp only [Wd.isB, Bool.not_eq_false, Bool.and_eq_true, beq_iff_eq] at h2
          exact h2.2
        rw [Wd.canon1] at h4
        unfold W64
        dsimp only
        omega
      · repeat' split
        all_goals first | exact Wd.canon_rng _ _ | (obtain ⟨a, b⟩ := hx; unfold W64 Wd.flip; dsimp only; split <;> omega)
theorem flt_w (s : Int) : W64 (floatOfInt .f64 s : Nat) := by
  have h := Ieee.Format.nearest_lt Ieee.double (decide (s < 0)) s.natAbs 0
  have e : 2 ^ Ieee.double.width = 18446744073709551616 := by decide +kernel
  rw [e] at h
  have h' : floatOfInt .f64 s < 18446744073709551616 := h
  unfold W64
  omega
theorem conv_w {k t x : Int} (hx : W64 x) : W64 (Fl.convA k t x).1 := by
  unfold Fl.convA
  repeat' split
  all_goals first | exact ⟨by decide, by decide⟩ | exact hx | exact Wd.canon_rng _ _ | exact flt_w _
theorem lv_w (S : Nat) (m : Nat → Int) (k a : Int) : W64 (Mm.lV S m k a) := by
  unfold Mm.lV
  split
  · exact Wd.canon_rng _ _
  · exact ⟨by decide, by decide⟩
theorem movh {r i : Int} (r1 : 0 ≤ r) (r2 : r < 18446744073709551616) : bits .or .u64 (bits .and .u64 r 4294967295) (IntKind.u64.wrap (Ru.wr i * 4294967296)) = r % 4294967296 + i % 4294967296 * 4294967296 := by
  have e1 : bits .and .u64 r 4294967295 = r % 4294967296 := by
    obtain ⟨a, rfl⟩ : ∃ a : Nat, r = a := ⟨r.toNat, by omega⟩
    show bits .and .u64 (a : Int) ((4294967295 : Nat) : Int) = _
    rw [Mm.bits_and rfl (by show a < 2 ^ 64; omega) (by decide)]
    have : a &&& 4294967295 = a % 2 ^ 32 := Nat.and_two_pow_sub_one_eq_mod a 32
    rw [this]
    omega
  have e2 : IntKind.u64.wrap (Ru.wr i * 4294967296) = i % 4294967296 * 2 ^ 32 := by rw [IntKind.wrap_u64]; unfold Ru.wr; omega
  rw [e1, e2]
  have := Mm.or_high (k := .u64) rfl (x := r % 4294967296) (y := i % 4294967296) (j := 32) (by omega) (by show _ < (4294967296 : Int); omega) (by omega) (by show _ < (18446744073709551616 : Int); show r % 4294967296 + i % 4294967296 * 4294967296 < _; omega)
  exact this
end Ru
end Go.Proofs.YtdklaeppcjopoaaGreat

/- The program's machine: calls; C64's addresses, flags. -/
namespace Go.Proofs.YtdklaeppcjopoaaGreat
open Go.RowKit
set_option linter.unusedVariables false

set_option maxRecDepth 100000 in
set_option maxHeartbeats 4000000 in
/-- no room on the stack -/
theorem pcall_full {w : World} {h : Pd} {s : Ru.St} (x : IsC w h s) (n : Int) (hl : Ru.wr (s.r 15 - 8) < (h.S : Int) - 4096) :
    Calls Tryz.prog 162 #[.pointer (some ⟨h.B, 0, none⟩), .int .i64 n] w fun r w' => r = .returned (.tuple #[]) ∧ IsC w' h { s.put 15 (Ru.wr (s.r 15 - 8)) with e := 4, n := 0 } ∧ Mc h w w' := by
  have c17 : w.cell? ⟨h.B, 17, none⟩ = some (.int .u64 (s.r 15)) := x.rc (a := 15) (by decide)
  have f17 := x.fz 17
  have eW : IntKind.u64.wrap (s.r 15 - 8) = Ru.wr (s.r 15 - 8) := by rw [IntKind.wrap_u64]; rfl
  have hA := Ru.wr_w (s.r 15 - 8)
  generalize Ru.wr (s.r 15 - 8) = A at *
  have x1 : IsC (w.setCell ⟨h.B, 17, none⟩ (.int .u64 A)) h (s.put 15 A) := x.put (a := 15) (by decide) hA
  have HV1 : Hid (Mc h w (w.setCell ⟨h.B, 17, none⟩ (.int .u64 A))) := Mc.refl.setB _ _
  have c17' : (w.setCell ⟨h.B, 17, none⟩ (.int .u64 A)).cell? ⟨h.B, 17, none⟩ = some (.int .u64 A) := World.cell?_setCell_same _ _ _ c17
  have c20' := x1.c20
  have HX : Hid (IsC (w.setCell ⟨h.B, 17, none⟩ (.int .u64 A)) h (s.put 15 A)) := x1
  clear x x1 hA
  go_enter Tryz.func162, Tryz.ntmps162
  go_wp2_with fail
  generalize w.setCell ⟨h.B, 17, none⟩ (.int .u64 A) = W at *
  have HD : Hid (∀ d, IsC (W.drewN d) h (s.put 15 A) ∧ Mc h w (W.drewN d)) := fun d => ⟨HX.out.kept (grown_drewN (World.grownBy.refl W none) d), HV1.out.grown (grown_drewN (World.grownBy.refl W none) d)⟩
  go_quiet (fail)
  go_wp2_with (go_at_call 65; refine (pfinish (HD.out _).1 4 0).mono ?_; rintro r w2 ⟨rfl, x2, v2⟩)
  first | go_end0 | go_returns
  exact ⟨rfl, x2, (HD.out _).2.trans v2⟩
set_option maxRecDepth 100000 in
set_option maxHeartbeats 4000000 in
theorem pcall_ok {w : World} {h : Pd} {s : Ru.St} (x : IsC w h s) (n : Int) (hl : (h.S : Int) - 4096 ≤ Ru.wr (s.r 15 - 8)) (he : Mm.lE h.S 9 (Ru.wr (s.r 15 - 8)) = 0) :
    Calls Tryz.prog 162 #[.pointer (some ⟨h.B, 0, none⟩), .int .i64 n] w fun r w' => r = .returned (.tuple #[]) ∧ IsC w' h (((s.put 15 (Ru.wr (s.r 15 - 8))).lay h.S (Ru.wr (s.r 15 - 8)) 9 (Ru.wr s.pl)).goto (((s.put 15 (Ru.wr (s.r 15 - 8))).lay h.S (Ru.wr (s.r 15 - 8)) 9 (Ru.wr s.pl)).pl + n)) ∧ Mc h w w' := by
  have c17 : w.cell? ⟨h.B, 17, none⟩ = some (.int .u64 (s.r 15)) := x.rc (a := 15) (by decide)
  have f17 := x.fz 17
  have eW : IntKind.u64.wrap (s.r 15 - 8) = Ru.wr (s.r 15 - 8) := by rw [IntKind.wrap_u64]; rfl
  have hA := Ru.wr_w (s.r 15 - 8)
  have hP := Ru.wr_w s.pl
  generalize Ru.wr (s.r 15 - 8) = A at *
  have x1 : IsC (w.setCell ⟨h.B, 17, none⟩ (.int .u64 A)) h (s.put 15 A) := x.put (a := 15) (by decide) hA
  have HV1 : Hid (Mc h w (w.setCell ⟨h.B, 17, none⟩ (.int .u64 A))) := Mc.refl.setB _ _
  have c17' : (w.setCell ⟨h.B, 17, none⟩ (.int .u64 A)).cell? ⟨h.B, 17, none⟩ = some (.int .u64 A) := World.cell?_setCell_same _ _ _ c17
  have c20' := x1.c20
  have c1' : (w.setCell ⟨h.B, 17, none⟩ (.int .u64 A)).cell? ⟨h.B, 1, none⟩ = some (.int .u64 (Ru.wr s.pl)) := x1.c1
  have HX : Hid (IsC (w.setCell ⟨h.B, 17, none⟩ (.int .u64 A)) h (s.put 15 A)) := x1
  have HA : Hid (Ru.W64 A) := hA
  have HP : Hid (Ru.W64 (Ru.wr s.pl)) := hP
  clear x x1 hA hP
  go_enter Tryz.func162, Tryz.ntmps162
  go_wp2_with fail
  generalize w.setCell ⟨h.B, 17, none⟩ (.int .u64 A) = W at *
  have HD : Hid (∀ d, IsC (W.drewN d) h (s.put 15 A) ∧ Mc h w (W.drewN d)) := fun d => ⟨HX.out.kept (grown_drewN (World.grownBy.refl W none) d), HV1.out.grown (grown_drewN (World.grownBy.refl W none) d)⟩
  go_quiet (fail)
  obtain ⟨x2, v2⟩ := HD.out nq
  clear c17 f17 c17' c20' c1' HX HV1 HD
  generalize W.drewN nq = W2 at *
  go_wp2_with fail
  refine tail_quiet 8 (by kernel_rfl) (by kernel_rfl) ?_
  have HX3 : Hid (IsC W2.drew h (s.put 15 A)) := x2.kept (grown_drew (World.grownBy.refl _ none))
  have HV3 : Hid (Mc h w W2.drew) := v2.grown (grown_drew (World.grownBy.refl _ none))
  clear x2 v2
  generalize W2.drew = W3 at *
  have c17 : W3.cell? ⟨h.B, 17, none⟩ = some (.int .u64 A) := HX3.out.rc (a := 15) (by decide)
  have c1 : W3.cell? ⟨h.B, 1, none⟩ = some (.int .u64 (Ru.wr s.pl)) := HX3.out.c1
  simp only [List.take_succ_cons, List.take_zero, List.drop_succ_cons, List.drop_zero]
  repeat (go_big_quiet_step (exact rfl))
  refine wpQuiet_nil ?_
  go_wp2_with (first
    | (go_at_call 180; refine (pstore_ok HX3.out A 9 (Ru.wr s.pl) HA.out HP.out he).mono ?_; rintro r w4 ⟨rfl, x4, v4⟩)
    | (go_at_call 169; refine (pjump x4 n).mono ?_; rintro r w5 ⟨rfl, x5, v5⟩))
  first | go_end0 | go_returns
  exact ⟨rfl, x5, (HV3.out.trans v4).trans v5⟩
set_option maxRecDepth 100000 in
set_option maxHeartbeats 4000000 in
theorem pcall_no {w : World} {h : Pd} {s : Ru.St} (x : IsC w h s) (n : Int) (hl : (h.S : Int) - 4096 ≤ Ru.wr (s.r 15 - 8)) (he : (Mm.lE h.S 9 (Ru.wr (s.r 15 - 8)) != 0) = true) :
    Calls Tryz.prog 162 #[.pointer (some ⟨h.B, 0, none⟩), .int .i64 n] w fun r w' => r = .panicked stk ∧ (∃ s', IsC w' h s') ∧ Mc h w w' := by
  have c17 : w.cell? ⟨h.B, 17, none⟩ = some (.int .u64 (s.r 15)) := x.rc (a := 15) (by decide)
  have f17 := x.fz 17
  have eW : IntKind.u64.wrap (s.r 15 - 8) = Ru.wr (s.r 15 - 8) := by rw [IntKind.wrap_u64]; rfl
  have hA := Ru.wr_w (s.r 15 - 8)
  have hP := Ru.wr_w s.pl
  generalize Ru.wr (s.r 15 - 8) = A at *
  have x1 : IsC (w.setCell ⟨h.B, 17, none⟩ (.int .u64 A)) h (s.put 15 A) := x.put (a := 15) (by decide) hA
  have HV1 : Hid (Mc h w (w.setCell ⟨h.B, 17, none⟩ (.int .u64 A))) := Mc.refl.setB _ _
  have c17' : (w.setCell ⟨h.B, 17, none⟩ (.int .u64 A)).cell? ⟨h.B, 17, none⟩ = some (.int .u64 A) := World.cell?_setCell_same _ _ _ c17
  have c20' := x1.c20
  have c1' : (w.setCell ⟨h.B, 17, none⟩ (.int .u64 A)).cell? ⟨h.B, 1, none⟩ = some (.int .u64 (Ru.wr s.pl)) := x1.c1
  have HX : Hid (IsC (w.setCell ⟨h.B, 17, none⟩ (.int .u64 A)) h (s.put 15 A)) := x1
  have HA : Hid (Ru.W64 A) := hA
  have HP : Hid (Ru.W64 (Ru.wr s.pl)) := hP
  clear x x1 hA hP
  go_enter Tryz.func162, Tryz.ntmps162
  go_wp2_with fail
  generalize w.setCell ⟨h.B, 17, none⟩ (.int .u64 A) = W at *
  have HD : Hid (∀ d, IsC (W.drewN d) h (s.put 15 A) ∧ Mc h w (W.drewN d)) := fun d => ⟨HX.out.kept (grown_drewN (World.grownBy.refl W none) d), HV1.out.grown (grown_drewN (World.grownBy.refl W none) d)⟩
  go_quiet (fail)
  obtain ⟨x2, v2⟩ := HD.out nq
  clear c17 f17 c17' c20' c1' HX HV1 HD
  generalize W.drewN nq = W2 at *
  go_wp2_with fail
  refine tail_quiet 8 (by kernel_rfl) (by kernel_rfl) ?_
  have HX3 : Hid (IsC W2.drew h (s.put 15 A)) := x2.kept (grown_drew (World.grownBy.refl _ none))
  have HV3 : Hid (Mc h w W2.drew) := v2.grown (grown_drew (World.grownBy.refl _ none))
  clear x2 v2
  generalize W2.drew = W3 at *
  have c17 : W3.cell? ⟨h.B, 17, none⟩ = some (.int .u64 A) := HX3.out.rc (a := 15) (by decide)
  have c1 : W3.cell? ⟨h.B, 1, none⟩ = some (.int .u64 (Ru.wr s.pl)) := HX3.out.c1
  simp only [List.take_succ_cons, List.take_zero, List.drop_succ_cons, List.drop_zero]
  repeat (go_big_quiet_step (exact rfl))
  refine wpQuiet_nil ?_
  go_wp2_with (go_at_call 180; refine (pstore_no HX3.out A 9 (Ru.wr s.pl) HA.out HP.out he).mono ?_; rintro r w4 ⟨rfl, x4, v4⟩)
  exact ⟨rfl, rfl, ⟨_, x4⟩, HV3.out.trans v4⟩
theorem padr_eq (p q c i : Int) : IntKind.u64.wrap (IntKind.u64.wrap (p + IntKind.u64.wrap (q * IntKind.u64.wrap c)) + IntKind.u64.wrap i) = Ru.wr (p + q * c + i) := by
  simp only [IntKind.wrap_u64]
  unfold Ru.wr
  rw [Int.mul_emod, Int.emod_emod_of_dvd c (by decide : (18446744073709551616 : Int) ∣ 18446744073709551616), ← Int.mul_emod]
  generalize q * c = z
  omega
set_option maxRecDepth 100000 in
set_option maxHeartbeats 4000000 in
theorem paddress {w : World} {h : Pd} {s : Ru.St} (x : IsC w h s) (op a : Int) (b c : Nat) (k sub sc imm lb : Int) (b16 : b < 16) (c16 : c < 16) :
    Calls Tryz.prog 214 #[.pointer (some ⟨h.B, 0, none⟩), .agg #[.int .i64 op, .int .i64 a, .int .i64 b, .int .i64 c, .int .i64 k, .int .i64 sub, .int .i64 sc, .int .i64 imm, .int .i64 lb]] w fun r w' => r = .returned (.int .u64 (s.adr ⟨op, a, b, c, k, sub, sc, imm, lb⟩)) ∧ w.grownBy w' none := by
  have HA : Hid (s.adr ⟨op, a, b, c, k, sub, sc, imm, lb⟩ = Ru.wr (s.r b + s.r c * sc + imm)) := rfl
  have G := World.grownBy_alloc w (Obj.cells #[.int .i64 op, .int .i64 a, .int .i64 b, .int .i64 c, .int .i64 k, .int .i64 sub, .int .i64 sc, .int .i64 imm, .int .i64 lb] 87) none
  have x1 := x.kept G
  have I : InstAt (w.alloc (Obj.cells #[.int .i64 op, .int .i64 a, .int .i64 b, .int .i64 c, .int .i64 k, .int .i64 sub, .int .i64 sc, .int .i64 imm, .int .i64 lb] 87)) w.heap.size ⟨op, a, b, c, k, sub, sc, imm, lb⟩ := InstAt.new w ⟨op, a, b, c, k, sub, sc, imm, lb⟩
  have hb' : (b : Int) < 16 := by omega
  have hc' : (c : Int) < 16 := by omega
  go_enter Tryz.func214, Tryz.ntmps214
  go_wp2_with fail
  generalize w.alloc (Obj.cells #[.int .i64 op, .int .i64 a, .int .i64 b, .int .i64 c, .int .i64 k, .int .i64 sub, .int .i64 sc, .int .i64 imm, .int .i64 lb] 87) = W at *
  have rb := x1.rc b16
  have rc := x1.rc c16
  obtain ⟨d0, d1, d2, d3, d4, d5, d6, d7, d8, dz⟩ := I
  clear dz x x1
  go_quiet (fail)
  go_wp2
  go_ret
  refine ⟨?_, grown_drewN G _⟩
  rw [HA.out, ← padr_eq]
  rfl
set_option maxRecDepth 100000 in
set_option maxHeartbeats 4000000 in
theorem pcompare {w : World} {h : Pd} {s : Ru.St} (x : IsC w h s) (t2 : h.t = 2) (k p q : Int) (hp : Ru.W64 p) (hq : Ru.W64 q) :
    Calls Tryz.prog 216 #[.pointer (some ⟨h.B, 0, none⟩), .int .i64 k, .int .u64 p, .int .u64 q] w fun r w' => r = .returned (.tuple #[]) ∧ IsC w' h (s.flg k p q) ∧ Mc h w w' := by
  have c23 := x.c23 t2
  have c24 := x.c24 t2
  have c25 := x.c25 t2
  have f23 := x.fz 23
  have f24 := x.fz 24
  have f25 := x.fz 25
  obtain ⟨p1, p2⟩ := hp
  obtain ⟨q1, q2⟩ := hq
  have HX6 : Hid (IsC (((w.setCell ⟨h.B, 23, none⟩ (.int .i64 k)).setCell ⟨h.B, 24, none⟩ (.int .u64 (Wd.canon k p))).setCell ⟨h.B, 25, none⟩ (.int .u64 (Wd.canon k q))) h (s.flg k p q)) := ((x.fk k).fx (Wd.canon_rng k p)).fy (Wd.canon_rng k q)
  have HV6 : Hid (Mc h w (((w.setCell ⟨h.B, 23, none⟩ (.int .i64 k)).setCell ⟨h.B, 24, none⟩ (.int .u64 (Wd.canon k p))).setCell ⟨h.B, 25, none⟩ (.int .u64 (Wd.canon k q)))) := ((Mc.refl.setB _ _).setB _ _).setB _ _
  have HC : Hid (∀ W, Calls Tryz.prog 137 #[.int .i64 k, .int .u64 p] W fun e w' => e = .returned (.int .u64 (Wd.canon k p)) ∧ w' = W) := fun W => canon_any k p W p1 p2
  have HD : Hid (∀ W, Calls Tryz.prog 137 #[.int .i64 k, .int .u64 q] W fun e w' => e = .returned (.int .u64 (Wd.canon k q)) ∧ w' = W) := fun W => canon_any k q W q1 q2
  generalize Wd.canon k p = X at *
  generalize Wd.canon k q = Y at *
  clear x
  go_enter Tryz.func216, Tryz.ntmps216
  go_wp2_with (first
    | (go_at_call 137; refine (HC.out _).mono ?_; rintro r w1 ⟨rfl, rfl⟩; clear HC)
    | (go_at_call 137; refine (HD.out _).mono ?_; rintro r w1 ⟨rfl, rfl⟩))
  first | go_end0 | go_returns
  exact ⟨rfl, HX6.out, HV6.out⟩
end Go.Proofs.YtdklaeppcjopoaaGreat

/- The program's machine: what C64's flags say; a division's two answers. -/
namespace Go.Proofs.YtdklaeppcjopoaaGreat
open Go.RowKit
set_option linter.unusedVariables false

namespace Ru
/-- flags are words of their kind -/
def St.Fc (s : St) : Prop := Wd.canon s.k s.x = s.x ∧ Wd.canon s.k s.y = s.y
theorem bin0 (sub x y : Int) : (Fl.binA sub 0 x y).2 ≠ 0 := by
  have h : Wd.hasBinB sub 0 = false := rfl
  unfold Fl.binA Wd.binI
  rw [if_neg (by decide), h]
  simp
theorem ky_cmp {sub : Int} (h : Wd.shB sub = false) (k : Int) : ky sub k = k := by unfold ky; rw [h]; rfl
/-- both answers of a division are there, or none -/
theorem div_both {k : Int} (h : Wd.intB k = true) (x y : Int) : (Fl.binA 4 k x y).2 = (Fl.binA 5 k x y).2 := by
  have h4 : Wd.hasBinB 4 k = true := by unfold Wd.hasBinB; rw [h]; rfl
  have h5 : Wd.hasBinB 5 k = true := by unfold Wd.hasBinB; rw [h]; rfl
  unfold Fl.binA
  split
  · rename_i hk; subst hk; exact absurd h (by decide)
  · unfold Wd.binI
    rw [h4, h5, show Wd.shB 4 = false from rfl, show Wd.shB 5 = false from rfl]
    by_cases c1 : Wd.isB k x = false ∨ Wd.isB k y = false
    · simp [c1]
    · by_cases c2 : y = 0
      · simp [c2]
      · cases Wd.sgnB k <;> simp [c1, c2]
/-- a division of other kinds: none -/
theorem div_none {k sub : Int} (hs : sub = 4 ∨ sub = 5) (h : Wd.intB k = false) (hk : k ≠ 10) (x y : Int) : (Fl.binA sub k x y).2 ≠ 0 := by
  have hb : Wd.hasBinB sub k = false := by
    unfold Wd.hasBinB
    rw [h]
    have h10 : (k == 10) = false := by simpa using hk
    rw [h10]
    rcases hs with rfl | rfl <;> simp
  unfold Fl.binA Wd.binI
  rw [if_neg hk, hb]
  simp
end Ru
def SayF (s : Ru.St) (sub : Int) : Int × Int := Fl.binA sub s.k (Wd.canon s.k s.x) (Wd.canon (Ru.ky sub s.k) s.y)
theorem sayF_eq {s : Ru.St} {sub : Int} (fc : s.Fc) (hs : Wd.shB sub = false) : SayF s sub = Fl.binA sub s.k s.x s.y := by
  unfold SayF
  rw [Ru.ky_cmp hs, fc.1, fc.2]
set_option maxRecDepth 100000 in
set_option maxHeartbeats 4000000 in
theorem psay_ok {w : World} {h : Pd} {s : Ru.St} (x : IsC w h s) (t2 : h.t = 2) (fc : s.Fc) (sub : Int) (hs : Wd.shB sub = false) (ho : s.okF sub = true) :
    Calls Tryz.prog 215 #[.pointer (some ⟨h.B, 0, none⟩), .int .i64 sub] w fun r w' => r = .returned (.int .u64 (Fl.binA sub s.k s.x s.y).1) ∧ w.grownBy w' none := by
  have hF : Fl.binA sub s.k (Wd.canon s.k s.x) (Wd.canon (Ru.ky sub s.k) s.y) = ((Fl.binA sub s.k s.x s.y).1, 0) := by
    have := sayF_eq fc hs
    unfold SayF at this
    rw [this]
    unfold Ru.St.okF at ho
    simp only [Bool.and_eq_true, beq_iff_eq] at ho
    rw [← ho.2]
  have HB : Hid (∀ W, Calls Tryz.prog 167 #[.int .i64 sub, .int .i64 s.k, .int .u64 s.x, .int .u64 s.y] W fun r w' => r = .returned (.int .u64 (Fl.binA sub s.k s.x s.y).1) ∧ W.grownBy w' none) := fun W => pbin_ok _ _ _ _ _ x.ok.x x.ok.y W hF
  generalize (Fl.binA sub s.k s.x s.y).1 = V at *
  have HX : Hid (IsC w h s) := x
  have c23 := fun y : Gw w => (HX.out.kept y.h).c23 t2
  have c24 := fun y : Gw w => (HX.out.kept y.h).c24 t2
  have c25 := fun y : Gw w => (HX.out.kept y.h).c25 t2
  clear x hF fc ho
  go_enter Tryz.func215, Tryz.ntmps215
  go_wp2_with fail
  refine region_grown (by kernel_rfl) (by kernel_rfl) ?_
  repeat (go_big_quiet_step (first | exact rfl | (go_at_call 167; exact Gw.call (HB.out _))))
  refine wpQuiet_nil ?_
  rintro W4 ⟨x4, hx4⟩
  have G4 : w.grownBy W4 none := by rw [hx4]; exact x4.h
  clear hx4 x4 c23 c24 c25
  go_wp2
  go_ret
  exact ⟨rfl, G4⟩
set_option maxRecDepth 100000 in
set_option maxHeartbeats 4000000 in
theorem psay_no {w : World} {h : Pd} {s : Ru.St} (x : IsC w h s) (t2 : h.t = 2) (fc : s.Fc) (sub : Int) (hs : Wd.shB sub = false) (ho : s.okF sub = false) :
    Calls Tryz.prog 215 #[.pointer (some ⟨h.B, 0, none⟩), .int .i64 sub] w fun r w' => r = .panicked stk ∧ w.grownBy w' none := by
  have hE : ((Fl.binA sub s.k (Wd.canon s.k s.x) (Wd.canon (Ru.ky sub s.k) s.y)).2 != 0) = true := by
    have := sayF_eq fc hs
    unfold SayF at this
    rw [this]
    unfold Ru.St.okF at ho
    rw [Bool.and_eq_false_iff] at ho
    rcases ho with ho | ho
    · have h0 : s.k = 0 := by simpa using ho
      rw [h0]
      simpa using Ru.bin0 sub s.x s.y
    · simpa using ho
  have HB : Hid (∀ W, Calls Tryz.prog 167 #[.int .i64 sub, .int .i64 s.k, .int .u64 s.x, .int .u64 s.y] W fun r w' => r = .panicked stk ∧ W.grownBy w' none) := fun W => pbin_no _ _ _ _ _ _ x.ok.x x.ok.y W rfl hE
  have HX : Hid (IsC w h s) := x
  have c23 := fun y : Gw w => (HX.out.kept y.h).c23 t2
  have c24 := fun y : Gw w => (HX.out.kept y.h).c24 t2
  have c25 := fun y : Gw w => (HX.out.kept y.h).c25 t2
  clear x hE fc ho
  go_enter Tryz.func215, Tryz.ntmps215
  go_wp2_with fail
  refine region_panics (fun w' => ∃ y : Gw w, w' = y.w) (fun ch w' => ch = stk ∧ ∃ y : Gw w, w' = y.w) 16 17 0 _ rfl (by kernel_rfl) (by kernel_rfl) ⟨⟨w.drew, grown_drew (World.grownBy.refl _ _)⟩, rfl⟩ ?_ ?_
  · rintro a' ch w' hd ⟨rfl, y, rfl⟩
    exact ⟨hd, rfl, y.h⟩
  · simp only [List.take_succ_cons, List.take_zero, List.append_nil]
    repeat (go_big_quiet_step (exact rfl))
    refine wpQuiet_nil ⟨rfl, ?_⟩
    rintro w' ⟨y, rfl⟩
    refine ⟨167, #[.int .i64 sub, .int .i64 s.k, .int .u64 s.x, .int .u64 s.y], by first | kernel_rfl | simp [go_sem], ?_⟩
    exact (HB.out _).mono fun r w' ⟨h1, h2⟩ => ⟨stk, h1, rfl, ⟨_, grown_trans y.h h2⟩, rfl⟩
theorem pother (op : Int) (w : World) : Calls Tryz.prog 219 #[.int .i64 op] w fun r w' => r = .returned (.int .i64 (if op = 4 then 5 else if op = 5 then 4 else 0)) ∧ w' = w := by
  by_cases h4 : op = 4
  · subst h4
    go_enter Tryz.func219, Tryz.ntmps219
    go_wp2
    go_ret
    exact ⟨rfl, rfl⟩
  · by_cases h5 : op = 5
    · subst h5
      go_enter Tryz.func219, Tryz.ntmps219
      go_wp2
      go_ret
      exact ⟨rfl, rfl⟩
    · have h4' : (op == 4) = false := by simpa using h4
      have h5' : (op == 5) = false := by simpa using h5
      rw [if_neg h4, if_neg h5]
      go_enter Tryz.func219, Tryz.ntmps219
      go_wp2
      go_ret
      exact ⟨rfl, rfl⟩
end Go.Proofs.YtdklaeppcjopoaaGreat

/- An instruction in a block of its own, stored field by field. -/
namespace Go.Proofs.YtdklaeppcjopoaaGreat
open Go.RowKit
set_option linter.unusedVariables false

theorem InstAt.set1 {W : World} {B : Nat} {v : InV} (h : InstAt W B v) (x : Int) : InstAt (W.setCell ⟨B, 1, none⟩ (.int .i64 x)) B { v with a := x } :=
  ⟨(World.cell?_setCell_other _ _ _ _ (by simp)).trans h.c0, World.cell?_setCell_same _ _ _ h.c1, (World.cell?_setCell_other _ _ _ _ (by simp)).trans h.c2, (World.cell?_setCell_other _ _ _ _ (by simp)).trans h.c3, (World.cell?_setCell_other _ _ _ _ (by simp)).trans h.c4, (World.cell?_setCell_other _ _ _ _ (by simp)).trans h.c5, (World.cell?_setCell_other _ _ _ _ (by simp)).trans h.c6, (World.cell?_setCell_other _ _ _ _ (by simp)).trans h.c7, (World.cell?_setCell_other _ _ _ _ (by simp)).trans h.c8, fun j => (World.frozen?_setCell _ _ _ _).trans (h.fz j)⟩
theorem InstAt.set2 {W : World} {B : Nat} {v : InV} (h : InstAt W B v) (x : Int) : InstAt (W.setCell ⟨B, 2, none⟩ (.int .i64 x)) B { v with b := x } :=
  ⟨(World.cell?_setCell_other _ _ _ _ (by simp)).trans h.c0, (World.cell?_setCell_other _ _ _ _ (by simp)).trans h.c1, World.cell?_setCell_same _ _ _ h.c2, (World.cell?_setCell_other _ _ _ _ (by simp)).trans h.c3, (World.cell?_setCell_other _ _ _ _ (by simp)).trans h.c4, (World.cell?_setCell_other _ _ _ _ (by simp)).trans h.c5, (World.cell?_setCell_other _ _ _ _ (by simp)).trans h.c6, (World.cell?_setCell_other _ _ _ _ (by simp)).trans h.c7, (World.cell?_setCell_other _ _ _ _ (by simp)).trans h.c8, fun j => (World.frozen?_setCell _ _ _ _).trans (h.fz j)⟩
theorem InstAt.set6 {W : World} {B : Nat} {v : InV} (h : InstAt W B v) (x : Int) : InstAt (W.setCell ⟨B, 6, none⟩ (.int .i64 x)) B { v with scale := x } :=
  ⟨(World.cell?_setCell_other _ _ _ _ (by simp)).trans h.c0, (World.cell?_setCell_other _ _ _ _ (by simp)).trans h.c1, (World.cell?_setCell_other _ _ _ _ (by simp)).trans h.c2, (World.cell?_setCell_other _ _ _ _ (by simp)).trans h.c3, (World.cell?_setCell_other _ _ _ _ (by simp)).trans h.c4, (World.cell?_setCell_other _ _ _ _ (by simp)).trans h.c5, World.cell?_setCell_same _ _ _ h.c6, (World.cell?_setCell_other _ _ _ _ (by simp)).trans h.c7, (World.cell?_setCell_other _ _ _ _ (by simp)).trans h.c8, fun j => (World.frozen?_setCell _ _ _ _).trans (h.fz j)⟩

theorem InstAt.set0 {W : World} {B : Nat} {v : InV} (h : InstAt W B v) (x : Int) : InstAt (W.setCell ⟨B, 0, none⟩ (.int .i64 x)) B { v with op := x } :=
  ⟨World.cell?_setCell_same _ _ _ h.c0, (World.cell?_setCell_other _ _ _ _ (by simp)).trans h.c1, (World.cell?_setCell_other _ _ _ _ (by simp)).trans h.c2, (World.cell?_setCell_other _ _ _ _ (by simp)).trans h.c3, (World.cell?_setCell_other _ _ _ _ (by simp)).trans h.c4, (World.cell?_setCell_other _ _ _ _ (by simp)).trans h.c5, (World.cell?_setCell_other _ _ _ _ (by simp)).trans h.c6, (World.cell?_setCell_other _ _ _ _ (by simp)).trans h.c7, (World.cell?_setCell_other _ _ _ _ (by simp)).trans h.c8, fun j => (World.frozen?_setCell _ _ _ _).trans (h.fz j)⟩
theorem InstAt.set8 {W : World} {B : Nat} {v : InV} (h : InstAt W B v) (x : Int) : InstAt (W.setCell ⟨B, 8, none⟩ (.int .i64 x)) B { v with label := x } :=
  ⟨(World.cell?_setCell_other _ _ _ _ (by simp)).trans h.c0, (World.cell?_setCell_other _ _ _ _ (by simp)).trans h.c1, (World.cell?_setCell_other _ _ _ _ (by simp)).trans h.c2, (World.cell?_setCell_other _ _ _ _ (by simp)).trans h.c3, (World.cell?_setCell_other _ _ _ _ (by simp)).trans h.c4, (World.cell?_setCell_other _ _ _ _ (by simp)).trans h.c5, (World.cell?_setCell_other _ _ _ _ (by simp)).trans h.c6, (World.cell?_setCell_other _ _ _ _ (by simp)).trans h.c7, World.cell?_setCell_same _ _ _ h.c8, fun j => (World.frozen?_setCell _ _ _ _).trans (h.fz j)⟩
/-- an instruction written over another, field by field -/
def put9 (W : World) (R : Nat) (v : InV) : World :=
  ((((((((W.setCell ⟨R, 0, none⟩ (.int .i64 v.op)).setCell ⟨R, 1, none⟩ (.int .i64 v.a)).setCell ⟨R, 2, none⟩ (.int .i64 v.b)).setCell ⟨R, 3, none⟩ (.int .i64 v.c)).setCell ⟨R, 4, none⟩ (.int .i64 v.k)).setCell ⟨R, 5, none⟩ (.int .i64 v.sub)).setCell ⟨R, 6, none⟩ (.int .i64 v.scale)).setCell ⟨R, 7, none⟩ (.int .i64 v.imm)).setCell ⟨R, 8, none⟩ (.int .i64 v.label)
theorem InstAt.put9 {W : World} {R : Nat} {v0 : InV} (h : InstAt W R v0) (v : InV) : InstAt (put9 W R v) R v :=
  ((((((((h.set0 v.op).set1 v.a).set2 v.b).set3 v.c).set4 v.k).set5 v.sub).set6 v.scale).set7 v.imm).set8 v.label
theorem grown_put9 (W : World) (R : Nat) (v : InV) : W.grownBy (put9 W R v) (some R) :=
  grown_trans (grown_trans (grown_trans (grown_trans (grown_trans (grown_trans (grown_trans (grown_trans (grown_setCell _ _ _ _) (grown_setCell _ _ _ _)) (grown_setCell _ _ _ _)) (grown_setCell _ _ _ _)) (grown_setCell _ _ _ _)) (grown_setCell _ _ _ _)) (grown_setCell _ _ _ _)) (grown_setCell _ _ _ _)) (grown_setCell _ _ _ _)

end Go.Proofs.YtdklaeppcjopoaaGreat
