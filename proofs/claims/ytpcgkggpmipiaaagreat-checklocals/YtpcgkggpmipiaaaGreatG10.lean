/- Contracts and plain facts that the walks share. -/
import Derived.Test.YtpcgkggpmipiaaaGreatG9
import Derived.Test.YtpcgkggpmipiaaaGreatG3
import Derived.Test.YtpcgkggpmipiaaaGreatRuGd
import Derived.Test.YtpcgkggpmipiaaaGreatG6
namespace Go.Proofs.YtpcgkggpmipiaaaGreat
open Go.RowKit
set_option linter.unusedVariables false
def ckE {α : Type} (enc : α → Value) : Except Int α → Ending
 | .ok a => .returned (enc a)
 | .error e => ckF e
structure ScA where
 ea : Option Addr
 ec : Nat
 va : Option Addr
 vc : Nat
 fa : Option Addr
 fc : Nat
 la : Option Addr
 lc : Nat
 ra : Option Addr
 rc : Nat
 ba : Option Addr
 bc : Nat
def scRow (c : Ck.En) (A : ScA) (loops nodes deep : Int) : List Value :=
 [.slice A.ea c.n A.ec, .slice A.va c.n A.vc, .slice A.fa c.fs.length A.fc, .int .i64 c.f.params, .slice A.la c.f.locals.length A.lc, .slice A.ra c.f.results.length A.rc, .slice A.ba c.f.body.length A.bc, .int .i64 loops, .int .i64 nodes, .int .i64 deep]
structure Sc (N : Nat) (w : World) (SB : Nat) (c : Ck.En) (A : ScA) (loops nodes deep : Int) : Prop where
 k : Bk w SB 119 (scRow c A loops nodes deep)
 tb : Tb N w A.ea A.ec A.va A.vc c.T c.n
 lo : NumIn N w A.la c.f.locals.length A.lc (fun i => c.f.locals.getD i 0)
 re : NumIn N w A.ra c.f.results.length A.rc (fun i => c.f.results.getD i 0)
 nb : N ≤ SB
theorem Sc.grow {N : Nat} {w w' : World} {SB : Nat} {c : Ck.En} {A : ScA} {loops nodes deep : Int} (h : Sc N w SB c A loops nodes deep) (g : w.grownBy w' none) : Sc N w' SB c A loops nodes deep :=
 ⟨h.k.grow g, h.tb.grow g, h.lo.grow g, h.re.grow g, h.nb⟩
theorem Sc.ch {N : Nat} {w w' : World} {SB : Nat} {c : Ck.En} {A : ScA} {loops nodes deep : Int} {l : List Nat} (h : Sc N w SB c A loops nodes deep) (g : Ch w w' l) (hl : ∀ k, k ∈ l → N ≤ k) (hS : SB ∉ l) : Sc N w' SB c A loops nodes deep :=
 ⟨h.k.ch g hS, h.tb.ch g hl, h.lo.ch g hl, h.re.ch g hl, h.nb⟩
theorem Sc.other {N : Nat} {w w' : World} {SB T : Nat} {c : Ck.En} {A : ScA} {loops nodes deep : Int} (h : Sc N w SB c A loops nodes deep) (g : w.grownBy w' (some T)) (hT : SB < T) : Sc N w' SB c A loops nodes deep :=
 h.ch (l := [T]) (Ch.one g (by simp)) (fun k hk => by have := h.nb; simp at hk; omega) (by simp; omega)
abbrev exV (op t n : Int) (s : ByteArray) (a : Option Addr) (k c : Nat) : Value := .agg #[.int .i64 op, .int .i64 t, .int .i64 n, .string s, .slice a k c]
namespace Pg
theorem dTxt_nd (s : ByteArray) : (dTxt s).nd = 0 ∧ (dTxt s).dp = 0 := by
 unfold dTxt
 split <;> exact ⟨rfl, rfl⟩
theorem dNums_nd (l : List Int) : (dNums l).nd = 0 ∧ (dNums l).dp = 0 := by
 induction l with
 | nil => exact ⟨rfl, rfl⟩
 | cons n l ih => simp [dNums, Dl.app, dCnt, ih]
theorem dNumL_nd (l : List Int) : (dNumL l).nd = 0 ∧ (dNumL l).dp = 0 := by simp [dNumL, Dl.app, dCnt, dNums_nd]
theorem dExL_nd (l : List Ex) : (dExL l).nd = (dCat Ex.dl l).nd ∧ (dExL l).dp = (dCat Ex.dl l).dp := by simp only [dExL, Dl.app, dCnt, dEs_cat]; exact ⟨by omega, by omega⟩
theorem dStL_nd (l : List St) : (dStL l).nd = (dCat St.dl l).nd ∧ (dStL l).dp = (dCat St.dl l).dp := by simp only [dStL, Dl.app, dCnt, dSs_cat]; exact ⟨by omega, by omega⟩
theorem Ex.nd_eq (x : Ex) : x.dl.nd = (dCat Ex.dl x.args).nd + 1 ∧ x.dl.dp = (dCat Ex.dl x.args).dp + 1 := by
 rw [Ex.dl_eq]
 simp only [Dl.node, Dl.app, dCnt, dNum, dTxt_nd, dExL_nd]
 exact ⟨by omega, by omega⟩
theorem St.nd_eq (x : St) : x.dl.nd = (dCat Ex.dl x.args).nd + (dCat St.dl x.a).nd + (dCat St.dl x.b).nd + 1 ∧ x.dl.dp = max (dCat Ex.dl x.args).dp (max (dCat St.dl x.a).dp (dCat St.dl x.b).dp) + 1 := by
 rw [St.dl_eq]
 simp only [Dl.node, Dl.app, dCnt, dNum, dNumL_nd, dExL_nd, dStL_nd]
 exact ⟨by omega, by omega⟩
theorem Fn.nd_eq (x : Fn) : x.dl.nd = (dCat St.dl x.body).nd ∧ x.dl.dp = (dCat St.dl x.body).dp := by
 simp only [Fn.dl, Dl.app, dCnt, dNumL_nd, dStL_nd]
 exact ⟨by omega, by omega⟩
theorem dTs_nd (l : List Tp) : (dTs l).nd = 0 ∧ (dTs l).dp = 0 := by
 induction l with
 | nil => exact ⟨rfl, rfl⟩
 | cons x l ih => simp [dTs, Dl.app, Tp.dl, dCnt, dNumL_nd, ih]
theorem Pr.nd_eq (p : Pr) : p.dl.nd = (dCat Fn.dl p.funcs).nd ∧ p.dl.dp = (dCat Fn.dl p.funcs).dp := by
 simp only [Pr.dl, Dl.app, dCnt, dTs_nd, dFs_cat]
 exact ⟨by omega, by omega⟩
theorem nd_succ {α : Type} (f : α → Dl) {l : List α} {k : Nat} (h : k < l.length) : (dCat f (l.take (k + 1))).nd = (dCat f (l.take k)).nd + (f l[k]).nd ∧ (dCat f (l.take (k + 1))).dp = max (dCat f (l.take k)).dp (f l[k]).dp := by rw [dCat_succ f h]; exact ⟨rfl, rfl⟩
end Pg
namespace Ck
structure Wf (c : En) : Prop where
 ptr : ∀ a : Nat, a < c.n → (c.T a).kind = 11 → 0 ≤ (c.T a).elem ∧ (c.T a).elem < (c.n : Int)
 fld : ∀ a : Nat, a < c.n → (c.T a).kind = 13 → ∀ i, i < (c.T a).nf → 0 ≤ (c.T a).F i ∧ (c.T a).F i < (c.n : Int)
 loc : ∀ x, x ∈ c.f.locals → 0 ≤ x ∧ x < (c.n : Int)
theorem tms_nil (c : En) : tms c [] = .ok [] := rfl
theorem tms_cons (c : En) (x : Pg.Ex) (l : List Pg.Ex) : tms c (x :: l) = (match tm c x with | .error e => .error e | .ok a => match tms c l with | .error e => .error e | .ok vs => .ok (a :: vs)) := by
 rw [tms]
 cases tm c x with
 | error e => rfl
 | ok a => cases tms c l <;> rfl
theorem tms_succ {c : En} {l : List Pg.Ex} {k : Nat} {vs : List Int} {v : Int} (hk : k < l.length) (h : tms c (l.take k) = .ok vs) (h1 : tm c l[k] = .ok v) : tms c (l.take (k + 1)) = .ok (vs ++ [v]) := by
 induction l generalizing k vs with
 | nil => simp at hk
 | cons x l ih =>
  cases k with
  | zero =>
   simp only [List.take_zero, tms_nil] at h
   injection h with h
   subst h
   simp only [List.getElem_cons_zero] at h1
   rw [List.take_succ_cons, List.take_zero, tms_cons, h1, tms_nil]
   rfl
  | succ k =>
   rw [List.take_succ_cons, tms_cons] at h
   rw [List.take_succ_cons, tms_cons]
   cases hx : tm c x with
   | error e => rw [hx] at h; cases h
   | ok a =>
    rw [hx] at h
    cases ht : tms c (l.take k) with
    | error e => rw [ht] at h; cases h
    | ok us =>
     rw [ht] at h
     injection h with h
     subst h
     rw [ih (by simpa using hk) ht (by simpa using h1)]
     rfl
theorem tms_err {c : En} {l : List Pg.Ex} {k : Nat} {vs : List Int} {e : Int} (hk : k < l.length) (h : tms c (l.take k) = .ok vs) (h1 : tm c l[k] = .error e) : tms c l = .error e := by
 induction l generalizing k vs with
 | nil => simp at hk
 | cons x l ih =>
  cases k with
  | zero =>
   simp only [List.getElem_cons_zero] at h1
   rw [tms_cons, h1]
  | succ k =>
   rw [List.take_succ_cons, tms_cons] at h
   rw [tms_cons]
   cases hx : tm c x with
   | error e => rw [hx] at h; cases h
   | ok a =>
    rw [hx] at h
    cases ht : tms c (l.take k) with
    | error e => rw [ht] at h; cases h
    | ok us => rw [ih (by simpa using hk) ht (by simpa using h1)]
theorem tms_len {c : En} {l : List Pg.Ex} {vs : List Int} (h : tms c l = .ok vs) : vs.length = l.length := by
 induction l generalizing vs with
 | nil => injection h with h; subst h; rfl
 | cons x l ih =>
  rw [tms_cons] at h
  cases hx : tm c x with
  | error e => rw [hx] at h; cases h
  | ok a =>
   rw [hx] at h
   cases ht : tms c l with
   | error e => rw [ht] at h; cases h
   | ok us => rw [ht] at h; injection h with h; subst h; simp [ih ht]
theorem must_ok {b : Bool} {e : Int} {α : Type} {f : Except Int α} {v : α} (h : (do must b e; f) = .ok v) : b = true ∧ f = .ok v := by
 cases b with
 | false => cases h
 | true => exact ⟨rfl, h⟩
theorem fld_ent {c : En} (hc : Wf c) {i n v : Int} (hi : 0 ≤ i ∧ i < (c.n : Int)) (h : fld c i n = .ok v) : 0 ≤ v ∧ v < (c.n : Int) := by
 unfold fld at h
 obtain ⟨h1, h⟩ := must_ok h
 obtain ⟨h2, h⟩ := must_ok h
 injection h with h
 subst h
 refine hc.fld i.toNat (by omega) (by simpa [kd] using h1) _ ?_
 have := Ty.nmB_iff.1 h2
 omega
theorem getD_ent {c : En} {l : List Int} (hl : ∀ x, x ∈ l → 0 ≤ x ∧ x < (c.n : Int)) {k : Nat} (hk : k < l.length) : 0 ≤ l.getD k 0 ∧ l.getD k 0 < (c.n : Int) := by
 rw [List.getD_eq_getElem?_getD, List.getElem?_eq_getElem hk]
 exact hl _ (List.getElem_mem hk)
theorem ask_ent {c : En} (hc : Wf c) {op t n v : Int} {sz : Nat} {l : List Int} (hl : ∀ x, x ∈ l → 0 ≤ x ∧ x < (c.n : Int)) (hp : pre c op t n sz l.length = .ok ()) (h : ask c op t n l = .ok v) : 0 ≤ v ∧ v < (c.n : Int) := by
 unfold pre at hp
 cases hr : trow op n with
 | none => rw [hr] at hp; cases hp
 | some r =>
  obtain ⟨pT, pN, pS, m⟩ := r
  rw [hr] at hp
  simp only at hp
  obtain ⟨-, hp⟩ := must_ok hp
  obtain ⟨hm, hp⟩ := must_ok hp
  have ht : pT = true → 0 ≤ t ∧ t < (c.n : Int) := fun h9 => by
   subst h9
   unfold must at hp
   have h8 : ent c t = true := by
    cases h7 : ent c t with
    | true => rfl
    | false => rw [h7] at hp; simp at hp
   unfold ent at h8
   exact Ty.nmB_iff.1 h8
  have hk : ∀ k : Nat, m = ((k + 1 : Nat) : Int) → 0 ≤ l.getD 0 0 ∧ l.getD 0 0 < (c.n : Int) := fun k hk => by
   subst hk
   have : l.length = k + 1 := by simp at hm; omega
   exact getD_ent hl (by omega)
  have hk0 : ∀ k, m = ((k : Nat) : Int) → 0 < k → 0 ≤ l.getD 0 0 ∧ l.getD 0 0 < (c.n : Int) := fun k h1 h2 => hk (k - 1) (by rw [h1]; congr 1; omega)
  clear hk hm hp
  by_cases hop : 1 ≤ op ∧ op ≤ 19
  case neg =>
   have hr2 : trow op n = none := by unfold trow; repeat rw [if_neg (by omega)]
   rw [hr2] at hr; cases hr
  obtain rfl | rfl | rfl | rfl | rfl | rfl | rfl | rfl | rfl | rfl | rfl | rfl | rfl | rfl | rfl | rfl | rfl | rfl | rfl : op = 1 ∨ op = 2 ∨ op = 3 ∨ op = 4 ∨ op = 5 ∨ op = 6 ∨ op = 7 ∨ op = 8 ∨ op = 9 ∨ op = 10 ∨ op = 11 ∨ op = 12 ∨ op = 13 ∨ op = 14 ∨ op = 15 ∨ op = 16 ∨ op = 17 ∨ op = 18 ∨ op = 19 := by omega
  ·have hr : some (true, true, false, 0) = some (pT, pN, pS, m) := hr
   simp only [Option.some.injEq, Prod.mk.injEq] at hr
   obtain ⟨rfl, rfl, rfl, rfl⟩ := hr
   have h : (do must (plainK c t) 93; must (Wd.isB (kd c t) (n % 18446744073709551616)) 95; .ok t) = (.ok v : Except Int Int) := h
   obtain ⟨hv, h⟩ := must_ok h
   obtain ⟨-, h⟩ := must_ok h
   injection h with h
   subst h
   exact ht rfl
  ·have hr : some (true, false, true, 0) = some (pT, pN, pS, m) := hr
   simp only [Option.some.injEq, Prod.mk.injEq] at hr
   obtain ⟨rfl, rfl, rfl, rfl⟩ := hr
   have h : (do must (kd c t == 15) 93; .ok t) = (.ok v : Except Int Int) := h
   obtain ⟨hv, h⟩ := must_ok h
   injection h with h
   subst h
   exact ht rfl
  ·have hr : some (true, false, false, 0) = some (pT, pN, pS, m) := hr
   simp only [Option.some.injEq, Prod.mk.injEq] at hr
   obtain ⟨rfl, rfl, rfl, rfl⟩ := hr
   have h : (do must (kd c t == 11 || kd c t == 14) 93; .ok t) = (.ok v : Except Int Int) := h
   obtain ⟨hv, h⟩ := must_ok h
   injection h with h
   subst h
   exact ht rfl
  ·have hr : some (false, true, false, 0) = some (pT, pN, pS, m) := hr
   simp only [Option.some.injEq, Prod.mk.injEq] at hr
   obtain ⟨rfl, rfl, rfl, rfl⟩ := hr
   have h : (do must (Ty.nmB c.f.locals.length n) 92; .ok (c.f.locals.getD n.toNat 0)) = (.ok v : Except Int Int) := h
   obtain ⟨hv, h⟩ := must_ok h
   injection h with h
   subst h
   have h8 := Ty.nmB_iff.1 hv
   rw [List.getD_eq_getElem?_getD, List.getElem?_eq_getElem (by omega)]
   exact hc.loc _ (List.getElem_mem _)
  ·have hr : (if 1 ≤ n ∧ n ≤ 3 then some (false, true, false, 1) else none) = some (pT, pN, pS, m) := hr
   by_cases h9 : 1 ≤ n ∧ n ≤ 3
   case neg => rw [if_neg h9] at hr; cases hr
   rw [if_pos h9] at hr
   simp only [Option.some.injEq, Prod.mk.injEq] at hr
   obtain ⟨rfl, rfl, rfl, rfl⟩ := hr
   have h : (do must (Wd.hasUnB n (kd c (l.getD 0 0))) 97; .ok (l.getD 0 0)) = (.ok v : Except Int Int) := h
   obtain ⟨hv, h⟩ := must_ok h
   injection h with h
   subst h
   exact hk0 1 rfl (by decide)
  ·have h : (if n = 9 ∨ n = 10 then (do must (intK c (l.getD 0 0) && intK c (l.getD 1 0)) 93; .ok (l.getD 0 0)) else if n ≤ 8 then (do must (l.getD 0 0 == l.getD 1 0) 93; must (Wd.hasBinB n (kd c (l.getD 0 0))) 97; .ok (l.getD 0 0)) else (do must (kd c t == 1 && l.getD 0 0 == l.getD 1 0) 93; must (Wd.hasBinB n (kd c (l.getD 0 0))) 97; .ok t)) = (.ok v : Except Int Int) := h
   have hr : (if 1 ≤ n ∧ n ≤ 10 then some (false, true, false, 2) else if 11 ≤ n ∧ n ≤ 16 then some (true, true, false, 2) else none) = some (pT, pN, pS, m) := hr
   by_cases h9 : 1 ≤ n ∧ n ≤ 10
   ·rw [if_pos h9] at hr
    simp only [Option.some.injEq, Prod.mk.injEq] at hr
    obtain ⟨rfl, rfl, rfl, rfl⟩ := hr
    by_cases h8 : n = 9 ∨ n = 10
    ·rw [if_pos h8] at h
     obtain ⟨-, h⟩ := must_ok h
     injection h with h
     subst h
     exact hk0 2 rfl (by decide)
    ·rw [if_neg h8, if_pos (by omega)] at h
     obtain ⟨-, h⟩ := must_ok h
     obtain ⟨-, h⟩ := must_ok h
     injection h with h
     subst h
     exact hk0 2 rfl (by decide)
   ·rw [if_neg h9] at hr
    by_cases h7 : 11 ≤ n ∧ n ≤ 16
    case neg => rw [if_neg h7] at hr; cases hr
    rw [if_pos h7] at hr
    simp only [Option.some.injEq, Prod.mk.injEq] at hr
    obtain ⟨rfl, rfl, rfl, rfl⟩ := hr
    rw [if_neg (by omega), if_neg (by omega)] at h
    obtain ⟨-, h⟩ := must_ok h
    obtain ⟨-, h⟩ := must_ok h
    injection h with h
    subst h
    exact ht rfl
  ·have hr : some (false, false, false, 2) = some (pT, pN, pS, m) := hr
   simp only [Option.some.injEq, Prod.mk.injEq] at hr
   obtain ⟨rfl, rfl, rfl, rfl⟩ := hr
   have h : (do must (kd c (l.getD 0 0) == 1 && l.getD 0 0 == l.getD 1 0) 93; .ok (l.getD 0 0)) = (.ok v : Except Int Int) := h
   obtain ⟨hv, h⟩ := must_ok h
   injection h with h
   subst h
   exact hk0 2 rfl (by decide)
  ·have hr : some (false, false, false, 2) = some (pT, pN, pS, m) := hr
   simp only [Option.some.injEq, Prod.mk.injEq] at hr
   obtain ⟨rfl, rfl, rfl, rfl⟩ := hr
   have h : (do must (kd c (l.getD 0 0) == 1 && l.getD 0 0 == l.getD 1 0) 93; .ok (l.getD 0 0)) = (.ok v : Except Int Int) := h
   obtain ⟨hv, h⟩ := must_ok h
   injection h with h
   subst h
   exact hk0 2 rfl (by decide)
  ·have hr : some (true, false, false, 1) = some (pT, pN, pS, m) := hr
   simp only [Option.some.injEq, Prod.mk.injEq] at hr
   obtain ⟨rfl, rfl, rfl, rfl⟩ := hr
   have h : (do must (Wd.numB (kd c (l.getD 0 0)) && Wd.numB (kd c t)) 93; .ok t) = (.ok v : Except Int Int) := h
   obtain ⟨hv, h⟩ := must_ok h
   injection h with h
   subst h
   exact ht rfl
  ·have hr : some (false, true, false, 1) = some (pT, pN, pS, m) := hr
   simp only [Option.some.injEq, Prod.mk.injEq] at hr
   obtain ⟨rfl, rfl, rfl, rfl⟩ := hr
   exact fld_ent hc (hk0 1 rfl (by decide)) h
  ·have hr : some (true, false, false, -1) = some (pT, pN, pS, m) := hr
   simp only [Option.some.injEq, Prod.mk.injEq] at hr
   obtain ⟨rfl, rfl, rfl, rfl⟩ := hr
   have h : (do must (kd c t == 13 && val c t) 93; must (l.length == (c.T t.toNat).nf) 94; must (l == fd c t) 93; .ok t) = (.ok v : Except Int Int) := h
   obtain ⟨hv, h⟩ := must_ok h
   obtain ⟨-, h⟩ := must_ok h
   obtain ⟨-, h⟩ := must_ok h
   injection h with h
   subst h
   exact ht rfl
  ·have hr : some (false, false, false, 1) = some (pT, pN, pS, m) := hr
   simp only [Option.some.injEq, Prod.mk.injEq] at hr
   obtain ⟨rfl, rfl, rfl, rfl⟩ := hr
   have h : (do must (kd c (l.getD 0 0) == 11 && val c (el c (l.getD 0 0))) 93; .ok (el c (l.getD 0 0))) = (.ok v : Except Int Int) := h
   obtain ⟨hv, h⟩ := must_ok h
   injection h with h
   subst h
   simp only [Bool.and_eq_true] at hv
   have h8 := hv.2
   unfold val at h8
   simp only [Bool.and_eq_true] at h8
   exact Ty.nmB_iff.1 h8.1
  ·have hr : some (true, true, false, 1) = some (pT, pN, pS, m) := hr
   simp only [Option.some.injEq, Prod.mk.injEq] at hr
   obtain ⟨rfl, rfl, rfl, rfl⟩ := hr
   have h : (do must (kd c (l.getD 0 0) == 11) 93; let f ← fld c (el c (l.getD 0 0)) n; must (ptr c t f) 93; .ok t) = (.ok v : Except Int Int) := h
   obtain ⟨-, h⟩ := must_ok h
   cases hf : fld c (el c (l.getD 0 0)) n with
   | error e => rw [hf] at h; cases h
   | ok f =>
    rw [hf] at h
    have h : (do must (ptr c t f) 93; .ok t) = (.ok v : Except Int Int) := h
    obtain ⟨-, h⟩ := must_ok h
    injection h with h
    subst h
    exact ht rfl
  ·have hr : some (true, false, false, 2) = some (pT, pN, pS, m) := hr
   simp only [Option.some.injEq, Prod.mk.injEq] at hr
   obtain ⟨rfl, rfl, rfl, rfl⟩ := hr
   have h : (do must ((if kd c (l.getD 0 0) = 11 then kd c (el c (l.getD 0 0)) == 12 else kd c (l.getD 0 0) == 14) && intK c (l.getD 1 0) && ptr c t (if kd c (l.getD 0 0) = 11 then el c (el c (l.getD 0 0)) else el c (l.getD 0 0))) 93; .ok t) = (.ok v : Except Int Int) := h
   obtain ⟨hv, h⟩ := must_ok h
   injection h with h
   subst h
   exact ht rfl
  ·have hr : some (true, false, false, 2) = some (pT, pN, pS, m) := hr
   simp only [Option.some.injEq, Prod.mk.injEq] at hr
   obtain ⟨rfl, rfl, rfl, rfl⟩ := hr
   have h : (do must (kd c (l.getD 0 0) == 15 && intK c (l.getD 1 0) && kd c t == 6) 93; .ok t) = (.ok v : Except Int Int) := h
   obtain ⟨hv, h⟩ := must_ok h
   injection h with h
   subst h
   exact ht rfl
  ·have hr : some (true, false, false, 1) = some (pT, pN, pS, m) := hr
   simp only [Option.some.injEq, Prod.mk.injEq] at hr
   obtain ⟨rfl, rfl, rfl, rfl⟩ := hr
   have h : (do must (listK c (l.getD 0 0) && kd c t == 5) 93; .ok t) = (.ok v : Except Int Int) := h
   obtain ⟨hv, h⟩ := must_ok h
   injection h with h
   subst h
   exact ht rfl
  ·have hr : some (false, false, false, 3) = some (pT, pN, pS, m) := hr
   simp only [Option.some.injEq, Prod.mk.injEq] at hr
   obtain ⟨rfl, rfl, rfl, rfl⟩ := hr
   have h : (do must (listK c (l.getD 0 0) && intK c (l.getD 1 0) && intK c (l.getD 2 0)) 93; .ok (l.getD 0 0)) = (.ok v : Except Int Int) := h
   obtain ⟨hv, h⟩ := must_ok h
   injection h with h
   subst h
   exact hk0 3 rfl (by decide)
  ·have hr : some (true, false, false, 0) = some (pT, pN, pS, m) := hr
   simp only [Option.some.injEq, Prod.mk.injEq] at hr
   obtain ⟨rfl, rfl, rfl, rfl⟩ := hr
   have h : (do must (kd c t == 11) 93; .ok t) = (.ok v : Except Int Int) := h
   obtain ⟨hv, h⟩ := must_ok h
   injection h with h
   subst h
   exact ht rfl
  ·have hr : some (true, false, false, 1) = some (pT, pN, pS, m) := hr
   simp only [Option.some.injEq, Prod.mk.injEq] at hr
   obtain ⟨rfl, rfl, rfl, rfl⟩ := hr
   have h : (do must (kd c t == 14 && intK c (l.getD 0 0)) 93; .ok t) = (.ok v : Except Int Int) := h
   obtain ⟨hv, h⟩ := must_ok h
   injection h with h
   subst h
   exact ht rfl
theorem tm_ent {c : En} (hc : Wf c) : ∀ x : Pg.Ex, ∀ v, tm c x = .ok v → 0 ≤ v ∧ v < (c.n : Int) := Pg.Ex.ind (fun op t n s args ih v h => by
 rw [tm] at h
 cases hp : pre c op t n s.size args.length with
 | error e => rw [hp] at h; cases h
 | ok u =>
  rw [hp] at h
  cases hl : tms c args with
  | error e => rw [hl] at h; cases h
  | ok l =>
   rw [hl] at h
   refine ask_ent hc (l := l) ?_ (by rw [tms_len hl]; exact hp) h
   clear hp h
   induction args generalizing l with
   | nil => injection hl with hl; subst hl; simp
   | cons y ys ihy =>
    rw [tms_cons] at hl
    cases h1 : tm c y with
    | error e => rw [h1] at hl; cases hl
    | ok a =>
     rw [h1] at hl
     cases h2 : tms c ys with
     | error e => rw [h2] at hl; cases hl
     | ok us =>
      rw [h2] at hl
      injection hl with hl
      subst hl
      intro x hx
      rcases List.mem_cons.1 hx with rfl | hx
      ·exact ih y (by simp) _ h1
      ·exact ihy (fun z hz => ih z (by simp [hz])) us h2 x hx)
theorem tms_ent {c : En} (hc : Wf c) {l : List Pg.Ex} {vs : List Int} (h : tms c l = .ok vs) : ∀ x, x ∈ vs → 0 ≤ x ∧ x < (c.n : Int) := by
 induction l generalizing vs with
 | nil => injection h with h; subst h; simp
 | cons y ys ihy =>
  rw [tms_cons] at h
  cases h1 : tm c y with
  | error e => rw [h1] at h; cases h
  | ok a =>
   rw [h1] at h
   cases h2 : tms c ys with
   | error e => rw [h2] at h; cases h
   | ok us =>
    rw [h2] at h
    injection h with h
    subst h
    intro x hx
    rcases List.mem_cons.1 hx with rfl | hx
    ·exact tm_ent hc y _ h1
    ·exact ihy h2 x hx
theorem len_nd (l : List Pg.Ex) : l.length ≤ (Pg.dCat Pg.Ex.dl l).nd := by
 induction l with
 | nil => simp
 | cons x l ih =>
  have := (Pg.Ex.nd_eq x).1
  simp only [Pg.dCat, Pg.Dl.app, List.length_cons]
  omega
end Ck
namespace Ck
theorem sms_cons (c : En) (lp : Nat) (x : Pg.St) (l : List Pg.St) : sms c lp (x :: l) = (match sm c lp x with | .error e => .error e | .ok _ => sms c lp l) := by
 rw [sms]
 cases sm c lp x <;> rfl
theorem sms_succ {c : En} {lp : Nat} {l : List Pg.St} {k : Nat} (hk : k < l.length) (h : sms c lp (l.take k) = .ok ()) (h1 : sm c lp l[k] = .ok ()) : sms c lp (l.take (k + 1)) = .ok () := by
 induction l generalizing k with
 | nil => simp at hk
 | cons x l ih =>
  cases k with
  | zero =>
   simp only [List.getElem_cons_zero] at h1
   rw [List.take_succ_cons, List.take_zero, sms_cons, h1]
   rfl
  | succ k =>
   rw [List.take_succ_cons, sms_cons] at h
   rw [List.take_succ_cons, sms_cons]
   cases hx : sm c lp x with
   | error e => rw [hx] at h; cases h
   | ok a =>
    rw [hx] at h
    exact ih (by simpa using hk) h (by simpa using h1)
theorem sms_err {c : En} {lp : Nat} {l : List Pg.St} {k : Nat} {e : Int} (hk : k < l.length) (h : sms c lp (l.take k) = .ok ()) (h1 : sm c lp l[k] = .error e) : sms c lp l = .error e := by
 induction l generalizing k with
 | nil => simp at hk
 | cons x l ih =>
  cases k with
  | zero =>
   simp only [List.getElem_cons_zero] at h1
   rw [sms_cons, h1]
  | succ k =>
   rw [List.take_succ_cons, sms_cons] at h
   rw [sms_cons]
   cases hx : sm c lp x with
   | error e => rw [hx] at h; cases h
   | ok a =>
    rw [hx] at h
    exact ih (by simpa using hk) h (by simpa using h1)
def Fok (c : En) : Prop := ∀ g, g ∈ c.fs → 0 ≤ g.params ∧ g.params ≤ g.locals.length
end Ck
end Go.Proofs.YtpcgkggpmipiaaaGreat
