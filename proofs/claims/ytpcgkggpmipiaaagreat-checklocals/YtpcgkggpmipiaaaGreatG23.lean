/- Contracts and plain facts that the walks share. -/
import Derived.Test.YtpcgkggpmipiaaaGreatG7
import Derived.Test.YtpcgkggpmipiaaaGreatG20
import Derived.Test.YtpcgkggpmipiaaaGreatCkStm
import Derived.Test.YtpcgkggpmipiaaaGreatCkFst
import Derived.Test.YtpcgkggpmipiaaaGreatCkHd2
import Derived.Test.YtpcgkggpmipiaaaGreatG22
import Derived.Test.YtpcgkggpmipiaaaGreatCkTab
import Derived.Test.YtpcgkggpmipiaaaGreatG6
import Derived.Test.YtpcgkggpmipiaaaGreatG10
namespace Go.Proofs.YtpcgkggpmipiaaaGreat
open Go.RowKit
theorem ckStmt (x : Pg.St) : StX x := ckStm ckCall x
end Go.Proofs.YtpcgkggpmipiaaaGreat
namespace Go.Proofs.YtpcgkggpmipiaaaGreat
open Go.RowKit
set_option linter.unusedVariables false
def Pg.Tp.v (x : Pg.Tp) : Ty.TyV := ⟨x.kind, x.elem, x.n, x.fields.length, fun i => x.fields.getD i 0⟩
def Pg.tab (l : List Pg.Tp) (i : Nat) : Ty.TyV := (l.getD i ⟨0, 0, 0, []⟩).v
theorem TpL.tys {N : Nat} {w : World} {a : Option Addr} {c : Nat} {l : List Pg.Tp} (h : TpL (fun b => b < N) w a c l) : TysIn N w a l.length c (Pg.tab l) :=
 ⟨h.le, h.max, by
  rcases h.lie with h0 | ⟨b, o, e, hb, hx⟩
  ·exact .inl (by rw [h0]; rfl)
  ·refine .inr ⟨b, o, e, hb, fun i hi => ?_⟩
   obtain ⟨fa, fc, hc⟩ := hx i l[i] (List.getElem?_eq_getElem hi)
   have e1 : Pg.tab l i = l[i].v := by unfold Pg.tab; rw [List.getD_eq_getElem?_getD, List.getElem?_eq_getElem hi]; rfl
   rw [e1]
   exact ⟨fa, fc, hc.c0, hc.c1, hc.c2, hc.c3, NumL.numIn hc.f (fun _ h => h), fun h0 => by
    obtain ⟨h1, h2⟩ := hc.f.nil h0
    exact ⟨by show l[i].fields.length = 0; rw [h1]; rfl, h2⟩⟩⟩
theorem Ck.wf_of {c : Ck.En} (hc : Ty.chk c.T c.n = 0) (hl : ∀ x, x ∈ c.f.locals → 0 ≤ x ∧ x < (c.n : Int)) : Ck.Wf c := by
 obtain ⟨h64, hf⟩ := Ty.chk_ok hc
 refine ⟨fun a ha hk => ?_, fun a ha hk i hi => ?_, hl⟩
 ·have h := (hf a ha).1
  unfold Ty.okB at h
  rw [if_pos (.inl hk)] at h
  simp only [Bool.and_eq_true] at h
  exact Ty.nmB_iff.1 h.1.1
 ·rcases Ty.ok_cases (hf a ha).1 with h | h | h | h
  ·omega
  ·have := h.2.2.2.2 i hi
   exact ⟨this.1, by omega⟩
  ·omega
  ·omega
theorem Ck.head_ok {c : Ck.En} {f : Pg.Fn} (h : Ck.head c f = .ok ()) : 0 ≤ f.params ∧ f.params ≤ f.locals.length ∧ (∀ x, x ∈ f.locals → 0 ≤ x ∧ x < (c.n : Int)) ∧ (∀ x, x ∈ f.results → 0 ≤ x ∧ x < (c.n : Int)) := by
 unfold Ck.head at h
 obtain ⟨-, h⟩ := Ck.must_ok h
 obtain ⟨h2, h⟩ := Ck.must_ok h
 obtain ⟨h3, h⟩ := Ck.must_ok h
 obtain ⟨-, h⟩ := Ck.must_ok h
 obtain ⟨-, h⟩ := Ck.must_ok h
 simp only [Bool.and_eq_true, decide_eq_true_eq] at h2
 refine ⟨h2.1.1, h2.1.2, fun x hx => Ty.nmB_iff.1 (List.all_eq_true.1 h3 x hx), fun x hx => ?_⟩
 have h6 : f.results.all (Ck.val c) = true := by
  cases h7 : f.results.all (Ck.val c) with
  | true => rfl
  | false => rw [h7] at h; cases h
 have h8 := List.all_eq_true.1 h6 x hx
 unfold Ck.val at h8
 simp only [Bool.and_eq_true] at h8
 exact Ty.nmB_iff.1 h8.1
namespace Ck
def of (p : Pg.Pr) : En := ⟨Pg.tab p.types, p.types.length, p.funcs, ⟨0, [], [], []⟩⟩
def takeP (p : Pg.Pr) : Except Int Unit := do
 must (p.err == 0) p.err
 must (Ty.chk (Pg.tab p.types) p.types.length == 0) 90
 must (decide (0 < p.funcs.length) && decide (p.funcs.length ≤ 32)) 91
 heads (of p) true p.funcs
 bodies (of p) p.funcs
theorem heads_app (c : En) : ∀ (a b : List Pg.Fn) (z : Bool), heads c z (a ++ b) = (do heads c z a; heads c (z && a.isEmpty) b)
 | [], b, z => by simp [heads, bind, Except.bind]
 | f :: a, b, z => by
  rw [List.cons_append, heads, heads, heads_app c a b false]
  simp only [Bool.false_and, List.isEmpty_cons, Bool.and_false, bind, Except.bind]
  cases head c f with
  | error e => rfl
  | ok u =>
   cases z with
   | false => simp
   | true => cases h : first c f <;> simp
theorem heads_at {c : En} {l : List Pg.Fn} {j : Nat} (hj : j < l.length) (h : heads c true (l.take j) = .ok ()) : heads c true l = (do head c l[j]; (if j = 0 then first c l[j] else pure ()); heads c false (l.drop (j + 1))) := by
 have e : l = l.take j ++ l[j] :: l.drop (j + 1) := by rw [List.getElem_cons_drop, List.take_append_drop]
 conv => lhs; rw [e]
 rw [heads_app, h]
 simp only [bind, Except.bind, Bool.true_and]
 rw [heads]
 cases j with
 | zero => simp [bind, Except.bind]
 | succ j => simp [bind, Except.bind, show (l.take (j + 1)).isEmpty = false from by cases l with | nil => simp at hj | cons a l => rfl]; rfl
theorem heads_to {c : En} {l : List Pg.Fn} {j : Nat} (hj : j < l.length) (h : heads c true (l.take j) = .ok ()) : heads c true (l.take (j + 1)) = (do head c l[j]; (if j = 0 then first c l[j] else pure ())) := by
 rw [List.take_succ_eq_append_getElem hj, heads_app, h]
 simp only [bind, Except.bind, Bool.true_and]
 rw [heads]
 cases j with
 | zero => simp [bind, Except.bind, heads]; cases head c l[0] <;> simp; cases first c l[0] <;> simp
 | succ j => simp [bind, Except.bind, heads, show (l.take (j + 1)).isEmpty = false from by cases l with | nil => simp at hj | cons a l => rfl]; rfl
theorem bodies_app (c : En) : ∀ (a b : List Pg.Fn), bodies c (a ++ b) = (do bodies c a; bodies c b)
 | [], b => by simp [bodies, bind, Except.bind]
 | f :: a, b => by
  rw [List.cons_append, bodies, bodies, bodies_app c a b]
  simp only [bind, Except.bind]
  cases sms { c with f := f } 0 f.body with
  | error e => rfl
  | ok u => cases h : must (ens f.body) 99 <;> simp
theorem bodies_at {c : En} {l : List Pg.Fn} {j : Nat} (hj : j < l.length) (h : bodies c (l.take j) = .ok ()) : bodies c l = (do sms { c with f := l[j] } 0 l[j].body; must (ens l[j].body) 99; bodies c (l.drop (j + 1))) := by
 have e : l = l.take j ++ l[j] :: l.drop (j + 1) := by rw [List.getElem_cons_drop, List.take_append_drop]
 conv => lhs; rw [e]
 rw [bodies_app, h]
 simp only [bind, Except.bind]
 rw [bodies]
 rfl
theorem bodies_to {c : En} {l : List Pg.Fn} {j : Nat} (hj : j < l.length) (h : bodies c (l.take j) = .ok ()) : bodies c (l.take (j + 1)) = (do sms { c with f := l[j] } 0 l[j].body; must (ens l[j].body) 99) := by
 rw [List.take_succ_eq_append_getElem hj, bodies_app, h]
 simp only [bind, Except.bind]
 rw [bodies]
 simp only [bind, Except.bind]
 cases sms { c with f := l[j] } 0 l[j].body with
 | error e => rfl
 | ok u => cases h : must (ens l[j].body) 99 <;> simp [bodies]
theorem heads_mem {c : En} : ∀ {l : List Pg.Fn} {z : Bool}, heads c z l = .ok () → ∀ f, f ∈ l → head c f = .ok ()
 | [], z, h, f, hf => by simp at hf
 | g :: l, z, h, f, hf => by
  rw [heads] at h
  simp only [bind, Except.bind] at h
  cases hg : head c g with
  | error e => rw [hg] at h; cases h
  | ok u =>
   rw [hg] at h
   have h2 : heads c false l = .ok () := by
    cases z with
    | false => simpa [pure, Except.pure] using h
    | true =>
     cases h3 : first c g with
     | error e => simp [h3] at h
     | ok u => simpa [h3] using h
   rcases List.mem_cons.1 hf with rfl | hf
   ·exact hg
   ·exact heads_mem h2 f hf
def taken (E ch : Int) (z : Bool) (H B : Except Int Unit) : Except Int Unit := do
 must (E == 0) E
 must (ch == 0) 90
 must z 91
 H
 B
theorem takeP_eq (p : Pg.Pr) : takeP p = taken p.err (Ty.chk (Pg.tab p.types) p.types.length) (decide (0 < p.funcs.length) && decide (p.funcs.length ≤ 32)) (heads (of p) true p.funcs) (bodies (of p) p.funcs) := rfl
theorem taken_1 {E ch : Int} {z : Bool} {H B : Except Int Unit} (h : E ≠ 0) : taken E ch z H B = .error E := by
 have e : (E == 0) = false := by simpa using h
 unfold taken
 rw [e]
 rfl
theorem taken_2 {E ch : Int} {z : Bool} {H B : Except Int Unit} (h : E = 0) (h2 : ch ≠ 0) : taken E ch z H B = .error 90 := by
 have e : (ch == 0) = false := by simpa using h2
 unfold taken
 rw [h, e]
 rfl
theorem taken_3 {E ch : Int} {z : Bool} {H B : Except Int Unit} (h : E = 0) (h2 : ch = 0) (h3 : z = false) : taken E ch z H B = .error 91 := by
 unfold taken
 rw [h, h2, h3]
 rfl
theorem taken_4 {E ch : Int} {z : Bool} {H B : Except Int Unit} (h : E = 0) (h2 : ch = 0) (h3 : z = true) : taken E ch z H B = (do H; B) := by
 unfold taken
 rw [h, h2, h3]
 rfl
theorem take_1 {p : Pg.Pr} (h : p.err ≠ 0) : takeP p = .error p.err := by rw [takeP_eq]; exact taken_1 h
theorem take_2 {p : Pg.Pr} (h : p.err = 0) (h2 : Ty.chk (Pg.tab p.types) p.types.length ≠ 0) : takeP p = .error 90 := by rw [takeP_eq]; exact taken_2 h h2
theorem take_3 {p : Pg.Pr} (h : p.err = 0) (h2 : Ty.chk (Pg.tab p.types) p.types.length = 0) (h3 : ¬ (0 < p.funcs.length ∧ p.funcs.length ≤ 32)) : takeP p = .error 91 := by
 rw [takeP_eq]; exact taken_3 h h2 (by rw [← Bool.decide_and]; exact decide_eq_false h3)
theorem take_4 {p : Pg.Pr} (h : p.err = 0) (h2 : Ty.chk (Pg.tab p.types) p.types.length = 0) (h3 : 0 < p.funcs.length ∧ p.funcs.length ≤ 32) : takeP p = (do heads (of p) true p.funcs; bodies (of p) p.funcs) := by
 rw [takeP_eq]; exact taken_4 h h2 (by rw [← Bool.decide_and]; exact decide_eq_true h3)
end Ck
namespace Pg
theorem fs_le : ∀ (l : List Fn) (f : Fn), f ∈ l → f.dl.nd ≤ (dFs l).nd ∧ f.dl.dp ≤ (dFs l).dp
 | g :: l, f, hf => by
  simp only [dFs, Dl.app]
  rcases List.mem_cons.1 hf with rfl | hf
  ·exact ⟨by omega, by omega⟩
  ·have := fs_le l f hf
   exact ⟨by omega, by omega⟩
theorem body_le {p : Pr} {f : Fn} (hf : f ∈ p.funcs) : (dCat St.dl f.body).nd ≤ p.dl.nd ∧ (dCat St.dl f.body).dp ≤ p.dl.dp := by
 have h := fs_le _ _ hf
 simp only [Fn.dl, dStL, Dl.app, dSs_cat] at h
 simp only [Pr.dl, Dl.app]
 exact ⟨by omega, by omega⟩
end Pg
end Go.Proofs.YtpcgkggpmipiaaaGreat
namespace Go.Proofs.YtpcgkggpmipiaaaGreat
set_option maxRecDepth 100000
set_option maxHeartbeats 32000000
open Go.RowKit
set_option linter.unusedVariables false
namespace Pg
def Tp.may (x : Tp) : Bool := okB x.kind && (okB x.elem && (okB x.n && x.fields.all okB))
def Fn.may (x : Fn) : Bool := okB x.params && (x.locals.all okB && (x.results.all okB && x.body.all St.may))
def Pr.may (p : Pr) : Bool := p.types.all Tp.may && p.funcs.all Fn.may
end Pg
def Pg.Pr.rerr (p : Pg.Pr) : Int := if p.may = true then (if p.dl.nd ≤ 2048 then (if p.dl.dp ≤ 32 then 0 else 83) else 82) else 81
end Go.Proofs.YtpcgkggpmipiaaaGreat
