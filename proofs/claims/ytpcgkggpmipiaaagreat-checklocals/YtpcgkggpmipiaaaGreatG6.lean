/- Contracts and plain facts that the walks share. -/
import Derived.Test.YtpcgkggpmipiaaaGreatPgCpF
import Derived.Test.YtpcgkggpmipiaaaGreatG3
import Derived.Test.YtpcgkggpmipiaaaGreatG1
import Derived.OwnWalk
import Derived.Laws.CopyOwn
import Derived.Laws.AppendOwnNone
import Derived.Deep.Onto
import Derived.Laws.IdiomStrings
namespace Go.Proofs.YtpcgkggpmipiaaaGreat
set_option maxRecDepth 100000
set_option maxHeartbeats 32000000
open Go.RowKit
set_option linter.unusedVariables false
namespace Pg
def okB (n : Int) : Bool := decide (0 ≤ n) && decide (n < 2147483648)
mutual
def Ex.may : Ex → Bool
 | .mk op t _ s args => mayEs args && (okB op && okB t && decide ((s.size : Int) ≤ 256))
def mayEs : List Ex → Bool
 | [] => true
 | x :: l => x.may && mayEs l
end
theorem mayEs_all (l : List Ex) : mayEs l = l.all Ex.may := by
 induction l with
 | nil => rfl
 | cons x l ih => simp only [mayEs, ih, List.all_cons]
theorem Ex.may_eq (x : Ex) : x.may = (x.args.all Ex.may && (okB x.op && okB x.t && decide ((x.s.size : Int) ≤ 256))) := by
 obtain ⟨_, _, _, _, _⟩ := x
 rw [Ex.may, mayEs_all]
 rfl
end Pg
namespace Pg
mutual
def St.may : St → Bool
 | .mk op _ args dst a b => mayEs args && (okB op && (dst.all okB && (maySs a && maySs b)))
def maySs : List St → Bool
 | [] => true
 | x :: l => x.may && maySs l
end
theorem maySs_all (l : List St) : maySs l = l.all St.may := by
 induction l with
 | nil => rfl
 | cons x l ih => simp only [maySs, ih, List.all_cons]
theorem St.may_eq (x : St) : x.may = (x.args.all Ex.may && (okB x.op && (x.dst.all okB && (x.a.all St.may && x.b.all St.may)))) := by
 obtain ⟨_, _, _, _, _, _⟩ := x
 rw [St.may, mayEs_all, maySs_all, maySs_all]
 rfl
end Pg
end Go.Proofs.YtpcgkggpmipiaaaGreat
namespace Go.Proofs.YtpcgkggpmipiaaaGreat
open Go.RowKit
set_option linter.unusedVariables false
namespace Pg
def grp (x : Nat) : List Int := if h : x < 128 then [(x : Int)] else ((x % 128 + 128 : Nat) : Int) :: grp (x / 128)
termination_by x
decreasing_by omega
theorem grp_small {x : Nat} (h : x < 128) : grp x = [(x : Int)] := by rw [grp, dif_pos h]
theorem grp_big {x : Nat} (h : ¬ x < 128) : grp x = ((x % 128 + 128 : Nat) : Int) :: grp (x / 128) := by rw [grp, dif_neg h]
theorem grp_len : ∀ (k x : Nat), x < 128 ^ (k + 1) → (grp x).length ≤ k + 1
 | 0, x, h => by rw [grp_small (by omega)]; simp
 | k + 1, x, h => by
  by_cases h1 : x < 128
  ·rw [grp_small h1]; simp
  ·rw [grp_big h1, List.length_cons]
   have := grp_len k (x / 128) (by rw [Nat.div_lt_iff_lt_mul (by omega)]; rw [Nat.pow_succ] at h; exact h)
   omega
def zig (n : Int) : Nat := if n < 0 then (2 * (-(n + 1)) + 1).toNat else (2 * n).toNat
theorem zig_lt {n : Int} (h : R64 n) : zig n < 18446744073709551616 := by
 obtain ⟨h0, h1⟩ := h
 unfold zig
 split <;> omega
structure Dl where
 may : Bool
 nd : Nat
 dp : Nat
 en : List Int
def Dl.nil : Dl := ⟨true, 0, 0, []⟩
def Dl.app (a b : Dl) : Dl := ⟨a.may && b.may, a.nd + b.nd, max a.dp b.dp, a.en ++ b.en⟩
def Dl.node (d : Dl) : Dl := ⟨d.may, d.nd + 1, d.dp + 1, d.en⟩
theorem Dl.nil_app (a : Dl) : Dl.nil.app a = a := by obtain ⟨m, n, d, e⟩ := a; simp [Dl.app, Dl.nil]
theorem Dl.app_nil (a : Dl) : a.app Dl.nil = a := by obtain ⟨m, n, d, e⟩ := a; simp [Dl.app, Dl.nil]
theorem Dl.app_assoc (a b c : Dl) : (a.app b).app c = a.app (b.app c) := by simp [Dl.app, Bool.and_assoc, Nat.add_assoc, Nat.max_assoc]
def dCnt (n : Int) : Dl := ⟨okB n, 0, 0, if okB n then grp n.toNat else []⟩
def dNum (n : Int) : Dl := ⟨true, 0, 0, grp (zig n)⟩
def txt (s : ByteArray) : List Int := s.data.toList.map (fun b => (b.toNat : Int))
theorem txt_len (s : ByteArray) : (txt s).length = s.size := by simp [txt]
def dTxt (s : ByteArray) : Dl := if s.size ≤ 256 then ⟨true, 0, 0, grp s.size ++ txt s⟩ else ⟨false, 0, 0, []⟩
def dNums : List Int → Dl
 | [] => .nil
 | n :: l => (dCnt n).app (dNums l)
def dNumL (l : List Int) : Dl := (dCnt l.length).app (dNums l)
mutual
def Ex.dl : Ex → Dl
 | .mk op t n s args => ((dCnt op).app ((dCnt t).app ((dNum n).app ((dTxt s).app ((dCnt args.length).app (dEs args)))))).node
def dEs : List Ex → Dl
 | [] => .nil
 | x :: l => x.dl.app (dEs l)
end
def dExL (l : List Ex) : Dl := (dCnt l.length).app (dEs l)
mutual
def St.dl : St → Dl
 | .mk op n args dst a b => ((dCnt op).app ((dNum n).app ((dExL args).app ((dNumL dst).app (((dCnt a.length).app (dSs a)).app ((dCnt b.length).app (dSs b))))))).node
def dSs : List St → Dl
 | [] => .nil
 | x :: l => x.dl.app (dSs l)
end
def dStL (l : List St) : Dl := (dCnt l.length).app (dSs l)
theorem Ex.dl_eq (x : Ex) : x.dl = ((dCnt x.op).app ((dCnt x.t).app ((dNum x.n).app ((dTxt x.s).app (dExL x.args))))).node := by
 obtain ⟨_, _, _, _, _⟩ := x
 rw [Ex.dl]
 rfl
theorem St.dl_eq (x : St) : x.dl = ((dCnt x.op).app ((dNum x.n).app ((dExL x.args).app ((dNumL x.dst).app ((dStL x.a).app (dStL x.b)))))).node := by
 obtain ⟨_, _, _, _, _, _⟩ := x
 rw [St.dl]
 rfl
def Tp.dl (x : Tp) : Dl := (dCnt x.kind).app ((dCnt x.elem).app ((dCnt x.n).app (dNumL x.fields)))
def Fn.dl (x : Fn) : Dl := (dCnt x.params).app ((dNumL x.locals).app ((dNumL x.results).app (dStL x.body)))
def dTs : List Tp → Dl
 | [] => .nil
 | x :: l => x.dl.app (dTs l)
def dFs : List Fn → Dl
 | [] => .nil
 | x :: l => x.dl.app (dFs l)
def Pr.dl (p : Pr) : Dl := ((dCnt p.types.length).app (dTs p.types)).app ((dCnt p.funcs.length).app (dFs p.funcs))
def dCat {α : Type} (f : α → Dl) : List α → Dl
 | [] => .nil
 | x :: l => (f x).app (dCat f l)
theorem dCat_app {α : Type} (f : α → Dl) (l m : List α) : dCat f (l ++ m) = (dCat f l).app (dCat f m) := by
 induction l with
 | nil => rw [List.nil_append, dCat, Dl.nil_app]
 | cons x l ih => rw [List.cons_append, dCat, ih, dCat, Dl.app_assoc]
theorem dCat_succ {α : Type} (f : α → Dl) {l : List α} {k : Nat} (h : k < l.length) : dCat f (l.take (k + 1)) = (dCat f (l.take k)).app (f l[k]) := by
 rw [List.take_succ_eq_append_getElem h, dCat_app]
 simp [dCat, Dl.app_nil]
theorem dEs_cat (l : List Ex) : dEs l = dCat Ex.dl l := by
 induction l with
 | nil => rfl
 | cons x l ih => rw [dEs, ih, dCat]
theorem dSs_cat (l : List St) : dSs l = dCat St.dl l := by
 induction l with
 | nil => rfl
 | cons x l ih => rw [dSs, ih, dCat]
theorem dNums_cat (l : List Int) : dNums l = dCat dCnt l := by
 induction l with
 | nil => rfl
 | cons x l ih => rw [dNums, ih, dCat]
theorem dTs_cat (l : List Tp) : dTs l = dCat Tp.dl l := by
 induction l with
 | nil => rfl
 | cons x l ih => rw [dTs, ih, dCat]
theorem dFs_cat (l : List Fn) : dFs l = dCat Fn.dl l := by
 induction l with
 | nil => rfl
 | cons x l ih => rw [dFs, ih, dCat]
theorem dCat_le {α : Type} (f : α → Dl) (l : List α) (k : Nat) : (dCat f (l.take k)).nd ≤ (dCat f l).nd ∧ (dCat f (l.take k)).dp ≤ (dCat f l).dp ∧ (dCat f (l.take k)).en.length ≤ (dCat f l).en.length ∧ ((dCat f l).may = true → (dCat f (l.take k)).may = true) := by
 have := dCat_app f (l.take k) (l.drop k)
 rw [List.take_append_drop] at this
 rw [this]
 simp only [Dl.app, List.length_append]
 refine ⟨by omega, by omega, by omega, fun h => ?_⟩
 simp only [Bool.and_eq_true] at h
 exact h.1
end Pg
theorem info_u8 : (Tryz.prog.info? 5).map (fun i => (i.zero, i.size, i.bytes)) = some (some (.int .u8 0), 1, 1) := by kernel_rfl
namespace Mm
end Mm
def bytesL (n : Nat) (g : Nat → Int) : List Value := (List.range n).map fun i => .int .u8 (g i)
theorem bytesL_len (n : Nat) (g : Nat → Int) : (bytesL n g).length = n := by simp [bytesL]
theorem bytesL_at {n : Nat} (g : Nat → Int) {j : Nat} (h : j < n) : (bytesL n g)[j]? = some (.int .u8 (g j)) := by simp [bytesL, h]
def OwnB (w : World) (base : Nat) (v : Value) (n : Nat) (g : Nat → Int) : Prop := w.ownsRow base 5 1 v n (bytesL n g)
theorem OwnB.shape {w : World} {base n : Nat} {v : Value} {g : Nat → Int} (h : OwnB w base v n g) : ∃ ao cap, v = .slice ao n cap ∧ (ao = none → n = 0 ∧ cap = 0) ∧ n ≤ cap ∧ cap ≤ maxLen ∧ Bs w ao n g := by
 obtain ⟨hl, h⟩ := h
 rcases h with ⟨rfl, rfl⟩ | ⟨b, cap, cur, rfl, hb, hh, hn, hc, hs, ht⟩
 ·exact ⟨none, 0, rfl, fun _ => ⟨rfl, rfl⟩, Nat.le_refl _, by unfold maxLen; omega, .inl rfl⟩
 ·refine ⟨some ⟨b, 0, none⟩, cap, rfl, (fun h => by cases h), hn, hc, .inr ⟨b, 0, rfl, fun i hi => ?_⟩⟩
  have h1 : (bytesL n g)[i]? = some (.int .u8 (g i)) := bytesL_at g hi
  rw [← ht, List.getElem?_take, if_pos (by omega)] at h1
  simp only [World.cell?, hh]
  simpa using h1
end Go.Proofs.YtpcgkggpmipiaaaGreat
namespace Go.Proofs.YtpcgkggpmipiaaaGreat
set_option maxRecDepth 100000
set_option maxHeartbeats 32000000
open Go.RowKit
set_option linter.unusedVariables false
end Go.Proofs.YtpcgkggpmipiaaaGreat
namespace Go.Proofs.YtpcgkggpmipiaaaGreat
set_option linter.unusedVariables false
namespace Cc
end Cc
end Go.Proofs.YtpcgkggpmipiaaaGreat
namespace Go.Proofs.YtpcgkggpmipiaaaGreat
open Go.RowKit
set_option linter.unusedVariables false
def OwnL (w : World) (base : Nat) (v : Value) (l : List Int) : Prop := w.ownsRow base 5 1 v l.length (l.map (Value.int .u8))
theorem bytesL_list (l : List Int) : bytesL l.length (fun i => l.getD i 0) = l.map (Value.int .u8) := by
 refine List.ext_getElem? fun i => ?_
 by_cases hi : i < l.length
 ·rw [bytesL_at _ hi, List.getElem?_map, List.getElem?_eq_getElem hi]
  simp [List.getD_eq_getElem?_getD, List.getElem?_eq_getElem hi]
 ·rw [List.getElem?_eq_none (by rw [bytesL_len]; omega), List.getElem?_eq_none (by rw [List.length_map]; omega)]
theorem OwnL.toB {w : World} {base : Nat} {v : Value} {l : List Int} (h : OwnL w base v l) : OwnB w base v l.length (fun i => l.getD i 0) := by
 unfold OwnB; rw [bytesL_list]; exact h
theorem OwnL.nil (w : World) (base : Nat) : OwnL w base (.slice none 0 0) [] := World.ownsRow_nil _ _ _ _
theorem OwnL.kept {w w' : World} {base : Nat} {v : Value} {l : List Int} {row : Option Nat} (h : OwnL w base v l) (hg : w.grownBy w' row) (hne : v.ownBlock = none ∨ v.ownBlock ≠ row) : OwnL w' base v l := World.ownsRow.kept h hg hne
theorem OwnL.app {w : World} {base : Nat} {v : Value} {l m : List Int} (h : w.ownsRow base 5 1 v (l.length + m.length) (l.map (Value.int .u8) ++ m.map (Value.int .u8))) : OwnL w base v (l ++ m) := by
 unfold OwnL
 rw [List.length_append, List.map_append]
 exact h
namespace Cc
end Cc
structure Ws where
 no : Bool
 nd : Nat
 dp : Nat
 dd : Nat
def Ws.err (s : Ws) : Int := if s.no = true then 81 else if s.nd ≤ 2048 then (if s.dd ≤ 32 then 0 else 83) else 82
def Ws.on (s : Ws) (d : Pg.Dl) : Ws := ⟨s.no || !d.may, s.nd + d.nd, s.dp, max s.dd (s.dp + d.dp)⟩
def Ws.into (s : Ws) : Ws := ⟨s.no, s.nd + 1, s.dp + 1, max s.dd (s.dp + 1)⟩
def Ws.out (s : Ws) : Ws := ⟨s.no, s.nd, s.dp - 1, s.dd⟩
theorem Ws.on_nil {s : Ws} (h : s.dp ≤ s.dd) : s.on .nil = s := by
 obtain ⟨a, b, c, d⟩ := s
 simp only [Ws.on, Pg.Dl.nil, Bool.not_true, Bool.or_false, Nat.add_zero]
 rw [Nat.max_eq_left h]
theorem Ws.on_app (s : Ws) (a b : Pg.Dl) : (s.on a).on b = s.on (a.app b) := by
 simp only [Ws.on, Pg.Dl.app, Bool.not_and, Bool.or_assoc, Nat.add_assoc]
 congr 1
 omega
theorem Ws.on_node (s : Ws) (d : Pg.Dl) : (s.into.on d).out = s.on d.node := by
 simp only [Ws.on, Ws.into, Ws.out, Pg.Dl.node]
 congr 1
 ·omega
 ·omega
theorem Ws.on_le (s : Ws) (d : Pg.Dl) (h : s.dp ≤ s.dd) : (s.on d).dp ≤ (s.on d).dd := by
 show s.dp ≤ max s.dd (s.dp + d.dp)
 omega
theorem Ws.ok_of {s : Ws} {d : Pg.Dl} (h : (s.on d).err = 0) : s.err = 0 ∧ d.may = true := by
 unfold Ws.err Ws.on at h
 unfold Ws.err
 split at h
 ·cases h
 ·rename_i h1
  simp at h1
  obtain ⟨h1, h2⟩ := h1
  split at h
  ·rename_i h3
   split at h
   ·rename_i h4
    refine ⟨?_, by simpa using h2⟩
    have : s.nd ≤ 2048 := by simp at h3; omega
    have h5 : s.dd ≤ 32 := by simp at h4; omega
    simp [h1, this, h5]
   ·cases h
  ·cases h
def Kt : Obj → Prop
 | .cells _ t _ => t ≠ 5 ∧ t ≠ 132
 | _ => True
structure Kp (base : Nat) (w w' : World) : Prop where
 os : w'.os = w.os
 tape : w'.tape = w.tape
 output : w'.output = w.output
 size : w.heap.size ≤ w'.heap.size
 block : ∀ k o, w.heap[k]? = some o → (k < base ∨ Kt o) → w'.heap[k]? = some o
theorem Kp.refl (base : Nat) (w : World) : Kp base w w := ⟨rfl, rfl, rfl, Nat.le_refl _, fun _ _ h _ => h⟩
theorem Kp.trans {base : Nat} {w w1 w2 : World} (h1 : Kp base w w1) (h2 : Kp base w1 w2) : Kp base w w2 :=
 ⟨h2.os.trans h1.os, h2.tape.trans h1.tape, h2.output.trans h1.output, Nat.le_trans h1.size h2.size, fun k o h hk => h2.block k o (h1.block k o h hk) hk⟩
theorem Kp.of {base : Nat} {w w' : World} (g : w.grownBy w' none) : Kp base w w' := ⟨g.os, g.tape, g.output, g.size, fun k o h _ => by
 have hk : k < w.heap.size := (Array.getElem?_eq_some_iff.1 h).1
 rw [g.block k hk (by simp)]
 exact h⟩
theorem Kp.ch {base : Nat} {w w' : World} (h : Kp base w w') : Ch w w' (List.range' base (w.heap.size - base)) :=
 ⟨h.os, h.tape, h.output, h.size, fun k hk hn => by
  have hb : k < base := by
   rw [List.mem_range'_1] at hn
   omega
  obtain ⟨o, ho⟩ : ∃ o, w.heap[k]? = some o := ⟨_, Array.getElem?_eq_getElem hk⟩
  rw [ho]
  exact h.block k o ho (.inl hb)⟩
theorem not_range {base n k : Nat} (h : k < base) : k ∉ List.range' base n := by
 rw [List.mem_range'_1]
 omega
theorem Kp.below {base : Nat} {w w' : World} (h : Kp base w w') (hb : base = w.heap.size) : w.grownBy w' none :=
 ⟨h.os, h.tape, h.output, h.size, fun k hk _ => by
  obtain ⟨o, ho⟩ : ∃ o, w.heap[k]? = some o := ⟨_, Array.getElem?_eq_getElem hk⟩
  rw [ho]
  exact h.block k o ho (.inl (by omega))⟩
theorem cell_heap {w : World} {B : Nat} {c : Array Value} {t : TypeId} {fr : Nat × Nat} (h : w.heap[B]? = some (.cells c t fr)) (i : Nat) : w.cell? ⟨B, i, none⟩ = c[i]? := by simp [World.cell?, h]
theorem frozen_heap {w : World} {B : Nat} {c : Array Value} {t : TypeId} (h : w.heap[B]? = some (.cells c t)) (i : Nat) : w.frozen? ⟨B, i, none⟩ = false := by simp [World.frozen?, h]
theorem set_heap {w : World} {B : Nat} {c : Array Value} {t : TypeId} {fr : Nat × Nat} (h : w.heap[B]? = some (.cells c t fr)) (i : Nat) (v : Value) : (w.setCell ⟨B, i, none⟩ v).heap[B]? = some (.cells (c.setIfInBounds i v) t fr) := by
 simp [World.setCell, Array.getElem?_modify, h]
theorem Kp.cell {base : Nat} {w w' : World} (hk : Kp base w w') {B : Nat} {c : Array Value} {t : TypeId} {fr : Nat × Nat} (h : w.heap[B]? = some (.cells c t fr)) (ht : Kt (.cells c t fr)) (i : Nat) : w'.cell? ⟨B, i, none⟩ = c[i]? := cell_heap (hk.block B _ h (.inr ht)) i
def Wr (base : Nat) (w : World) (B : Nat) (s : Ws) (bs : List Int) : Prop := base ≤ B ∧ base ≤ w.heap.size ∧ s.dp ≤ s.dd ∧ ∃ v, w.heap[B]? = some (.cells #[v, .bool s.no, .int .i64 s.nd, .int .i64 s.dp, .int .i64 s.dd] 132) ∧ OwnL w base v bs
theorem Kp.set {base : Nat} {w : World} {B i : Nat} {c : Array Value} {fr : Nat × Nat} (h : w.heap[B]? = some (.cells c 132 fr)) (hB : base ≤ B) (v : Value) : Kp base w (w.setCell ⟨B, i, none⟩ v) :=
 ⟨(grown_set w B i v).os, (grown_set w B i v).tape, (grown_set w B i v).output, (grown_set w B i v).size, fun k o hk ht => by
  have hlt : k < w.heap.size := (Array.getElem?_eq_some_iff.1 hk).1
  rw [(grown_set w B i v).block k hlt ?_]
  ·exact hk
  ·intro e
   injection e with e
   subst e
   rw [h] at hk
   injection hk with hk
   subst hk
   rcases ht with ht | ht
   ·omega
   ·exact ht.2 rfl⟩
theorem Kp.app {base : Nat} {w w' : World} {v : Value} {l : List Int} (h : OwnL w base v l) (g : w.grownBy w' v.ownBlock) : Kp base w w' :=
 ⟨g.os, g.tape, g.output, g.size, fun k o hk ht => by
  have hlt : k < w.heap.size := (Array.getElem?_eq_some_iff.1 hk).1
  rw [g.block k hlt ?_]
  ·exact hk
  ·intro e
   rcases h.2 with ⟨rfl, _⟩ | ⟨q, c, cur, rfl, hb, hq, _⟩
   ·cases e
   ·injection e with e
    subst e
    rw [hq] at hk
    injection hk with hk
    subst hk
    rcases ht with ht | ht
    ·skip
     omega
    ·exact ht.1 rfl⟩
theorem OwnL.kw {base : Nat} {w : World} {B i : Nat} {c : Array Value} {v : Value} {l : List Int} (h : OwnL w base v l) (hB : w.heap[B]? = some (.cells c 132)) (u : Value) : OwnL (w.setCell ⟨B, i, none⟩ u) base v l :=
 h.kept (grown_set w B i u) (by
  rcases h.2 with ⟨rfl, _⟩ | ⟨q, c', cur, rfl, hb, hq, _⟩
  ·exact .inl rfl
  ·refine .inr fun e => ?_
   injection e with e
   subst e
   skip
   rw [hB] at hq
   injection hq with hq
   injection hq with _ hq
   exact absurd hq (by decide))
theorem OwnL.apartW {base : Nat} {w : World} {B : Nat} {c : Array Value} {v : Value} {l : List Int} (h : OwnL w base v l) (hB : w.heap[B]? = some (.cells c 132)) : some B ≠ v.ownBlock := by
 intro e
 rcases h.2 with ⟨rfl, _⟩ | ⟨q, c', cur, rfl, hb, hq, _⟩
 ·cases e
 ·injection e with e
  subst e
  skip
  rw [hB] at hq
  injection hq with hq
  injection hq with _ hq
  exact absurd hq (by decide)
def WrP (base : Nat) (w : World) (B : Nat) (s : Ws) (bs : List Int) (d : Pg.Dl) (w' : World) : Prop := Kp base w w' ∧ ∃ e, Wr base w' B (s.on d) (bs ++ e) ∧ e.length ≤ d.en.length ∧ ((s.on d).err = 0 → e = d.en)
def Rm (s : Ws) (bs : List Int) (d : Pg.Dl) : Prop := s.nd + d.nd < 33554432 ∧ s.dp + d.dp < 65536 ∧ bs.length + d.en.length ≤ 1000000000
theorem WrP.nil {base : Nat} {w : World} {B : Nat} {s : Ws} {bs : List Int} (h : Wr base w B s bs) : WrP base w B s bs .nil w :=
 ⟨Kp.refl _ _, [], by rw [Ws.on_nil h.2.2.1, List.append_nil]; exact h, Nat.le_refl _, fun _ => rfl⟩
theorem WrP.grow {base : Nat} {w w1 w2 : World} {B : Nat} {s : Ws} {bs : List Int} {d : Pg.Dl} (h : WrP base w B s bs d w1) (g : w1.grownBy w2 none) : WrP base w B s bs d w2 := by
 obtain ⟨hk, e, ⟨h1, h2, h3, v, h4, h5⟩, h6⟩ := h
 have hk2 : Kp base w1 w2 := Kp.of g
 refine ⟨hk.trans hk2, e, ⟨h1, Nat.le_trans h2 g.size, h3, v, ?_, h5.kept g (Classical.em _)⟩, h6⟩
 have hk : B < w1.heap.size := (Array.getElem?_eq_some_iff.1 h4).1
 rw [g.block B hk (by simp)]
 exact h4
theorem Wr.grow {base : Nat} {w1 w2 : World} {B : Nat} {s : Ws} {bs : List Int} (h : Wr base w1 B s bs) (g : w1.grownBy w2 none) : Wr base w2 B s bs := by
 obtain ⟨h1, h2, h3, v, h4, h5⟩ := h
 refine ⟨h1, Nat.le_trans h2 g.size, h3, v, ?_, h5.kept g (Classical.em _)⟩
 have hk : B < w1.heap.size := (Array.getElem?_eq_some_iff.1 h4).1
 rw [g.block B hk (by simp)]
 exact h4
theorem WrP.call {base : Nat} {w w1 : World} {B : Nat} {s : Ws} {bs : List Int} {D d : Pg.Dl} {f : Nat} {args : Array Value} (h : WrP base w B s bs D w1) (hr : Rm s bs (D.app d))
  (hc : ∀ s' bs', Wr base w1 B s' bs' → Rm s' bs' d → Calls Tryz.prog f args w1 fun e w' => e = .returned (.tuple #[]) ∧ WrP base w1 B s' bs' d w') :
  Calls Tryz.prog f args w1 fun e w' => e = .returned (.tuple #[]) ∧ WrP base w B s bs (D.app d) w' := by
 obtain ⟨hk, e, hw, hl, ho⟩ := h
 obtain ⟨r1, r2, r3⟩ := hr
 simp only [Pg.Dl.app, List.length_append] at r1 r2 r3
 refine (hc (s.on D) (bs ++ e) hw ⟨?_, ?_, ?_⟩).mono ?_
 ·show s.nd + D.nd + d.nd < _; omega
 ·show s.dp + d.dp < _; omega
 ·rw [List.length_append]; omega
 ·rintro r w2 ⟨rfl, hk2, e2, hw2, hl2, ho2⟩
  rw [Ws.on_app] at hw2 ho2
  refine ⟨rfl, hk.trans hk2, e ++ e2, ?_, ?_, fun h => ?_⟩
  ·rw [← List.append_assoc]; exact hw2
  ·simp only [Pg.Dl.app, List.length_append]; omega
  ·rw [ho2 h]
   rw [← Ws.on_app] at h
   rw [ho (Ws.ok_of h).1]
   rfl
end Go.Proofs.YtpcgkggpmipiaaaGreat
namespace Go.Proofs.YtpcgkggpmipiaaaGreat
set_option maxRecDepth 100000
set_option maxHeartbeats 32000000
open Go.RowKit
set_option linter.unusedVariables false
theorem refusal_any {base : Nat} {w : World} {B : Nat} {s : Ws} {bs : List Int} (h : Wr base w B s bs) :
  Calls Tryz.prog 88 #[.pointer (some ⟨B, 0, none⟩)] w fun e w' => e = .returned (.int .i64 s.err) ∧ w' = w := by
 obtain ⟨h1, h2, h3, v, h4, h5⟩ := h
 have c1 : w.cell? ⟨B, 1, none⟩ = some (.bool s.no) := cell_heap h4 1
 have c2 : w.cell? ⟨B, 2, none⟩ = some (.int .i64 s.nd) := cell_heap h4 2
 have c4 : w.cell? ⟨B, 4, none⟩ = some (.int .i64 s.dd) := cell_heap h4 4
 clear h1 h2 h3 h4 h5
 cases hno : s.no
 ·rw [hno] at c1
  by_cases hn : s.nd ≤ 2048
  ·have d1 : ¬ (2048 < (s.nd : Int)) := by omega
   have d1' : decide (2048 < (s.nd : Int)) = false := by simpa using d1
   by_cases hd : s.dd ≤ 32
   ·have d2 : ¬ (32 < (s.dd : Int)) := by omega
    have d2' : decide (32 < (s.dd : Int)) = false := by simpa using d2
    have he : s.err = 0 := by simp [Ws.err, hno, hn, hd]
    rw [he]
    clear he hno hn hd
    go_enter Tryz.func88, Tryz.ntmps88
    go_wp2
    go_ret
    exact ⟨rfl, rfl⟩
   ·have d2 : 32 < (s.dd : Int) := by omega
    have d2' : decide (32 < (s.dd : Int)) = true := by simpa using d2
    have he : s.err = 83 := by simp [Ws.err, hno, hn, hd]
    rw [he]
    clear he hno hn hd
    go_enter Tryz.func88, Tryz.ntmps88
    go_wp2
    go_ret
    exact ⟨rfl, rfl⟩
  ·have d1 : 2048 < (s.nd : Int) := by omega
   have d1' : decide (2048 < (s.nd : Int)) = true := by simpa using d1
   have he : s.err = 82 := by simp [Ws.err, hno, hn]
   rw [he]
   clear he hno hn
   go_enter Tryz.func88, Tryz.ntmps88
   go_wp2
   go_ret
   exact ⟨rfl, rfl⟩
 ·rw [hno] at c1
  have he : s.err = 81 := by simp [Ws.err, hno]
  rw [he]
  clear he hno
  go_enter Tryz.func88, Tryz.ntmps88
  go_wp2
  go_ret
  exact ⟨rfl, rfl⟩
theorem wp_appBs {ops : Array Oper} {rest : List Oper} {o : Oper} {a : Act} {Q : Exit → Act → World → Prop} {W : World} (hgd : o.guard = none) (s x : Operand)
  (ho : o.op = .call { callee := .builtin .append, args := #[s, x], argTypes := #[36, 36] }) (base : Nat) (v : Value) (l : List Int) (hs : a.eval s = v) (hown : OwnL W base v l)
  (g c : Nat) (m : List Int) (hx : a.eval x = .slice (some ⟨g, 0, none⟩) m.length c) (hm : ∀ (j : Nat) (z : Int), m[j]? = some z → W.cell? ⟨g, j, none⟩ = some (.int .u8 z)) (hl : l.length + m.length ≤ 1000000000) (hb : base ≤ W.heap.size)
  (h : ∀ v' w', OwnL w' base v' (l ++ m) → W.grownBy w' v.ownBlock → wpList Tryz.prog ops Q rest (a.put o.dst v') w') : wpList Tryz.prog ops Q (o :: rest) a W := by
 obtain ⟨i, hi, hz0, hz1, hz2⟩ := info_parts info_u8
 refine wpList_append_own _ hgd s x 36 ho base 5 i (.int .u8 0) 1 1 Tryz.underlying36 hi hz0 hz1 hz2 rfl (by decide) v l.length (l.map (Value.int .u8)) hs hown ⟨g, 0, none⟩ m.length c (m.map (Value.int .u8)) hx (by simp)
  (fun j u hj => ?_) (by intro u hu; obtain ⟨z, _, rfl⟩ := List.mem_map.mp hu; rfl) (by unfold maxLen; omega) (by omega) hb ?_
 ·rw [List.getElem?_map] at hj
  obtain ⟨z, hz, rfl⟩ := Option.map_eq_some_iff.1 hj
  have := hm j z hz
  rw [show ((⟨g, 0, none⟩ : Addr).add j) = ⟨g, 0 + j, none⟩ from by simp [Addr.add]; exact fun h => h.symm, Nat.zero_add]
  exact this
 ·intro v' w2 ho2 hg2 _
  exact h v' w2 (OwnL.app ho2) hg2
theorem put_any {base : Nat} {w : World} {B : Nat} {s : Ws} {bs : List Int} (h : Wr base w B s bs) {g c : Nat} {m : List Int} (hm : ∀ (j : Nat) (z : Int), m[j]? = some z → w.cell? ⟨g, j, none⟩ = some (.int .u8 z)) (hl : bs.length + m.length ≤ 1000000000) :
  Calls Tryz.prog 228 #[.pointer (some ⟨B, 0, none⟩), .slice (some ⟨g, 0, none⟩) m.length c] w fun e w' => e = .returned (.tuple #[]) ∧ WrP base w B s bs ⟨true, 0, 0, m⟩ w' := by
 have HW : Hid (Wr base w B s bs) := h
 have HR := refusal_any h
 have hon : s.on ⟨true, 0, 0, m⟩ = s := Ws.on_nil (s := s) h.2.2.1
 have HN : Hid (s.on ⟨true, 0, 0, m⟩ = s) := hon
 have HM : Hid (∀ (j : Nat) (z : Int), m[j]? = some z → w.cell? ⟨g, j, none⟩ = some (.int .u8 z)) := hm
 have HL : Hid (bs.length + m.length ≤ 1000000000) := hl
 obtain ⟨h1, h2, h3, v, h4, h5⟩ := h
 have c0 : w.cell? ⟨B, 0, none⟩ = some v := cell_heap h4 0
 obtain ⟨ao, cp, rfl, _⟩ := h5.toB.shape
 have H4 : Hid (w.heap[B]? = some (.cells #[.slice ao bs.length cp, .bool s.no, .int .i64 s.nd, .int .i64 s.dp, .int .i64 s.dd] 132)) := h4
 have H5 : Hid (OwnL w base (.slice ao bs.length cp) bs) := h5
 have f0 : w.frozen? ⟨B, 0, none⟩ = false := frozen_heap h4 0
 by_cases he : s.err = 0
 ·have HE : Hid (s.err = 0) := he
  rw [he] at HR
  clear h4 h5 hm hl hon he
  go_enter Tryz.func228, Tryz.ntmps228
  go_wp2_with (first
   | (go_at_call 88; refine HR.mono ?_; rintro e w4 ⟨rfl, hw4⟩; rw [hw4]; clear hw4 w4)
   | (at_builtin; refine wp_appBs rfl _ _ rfl base _ bs rfl H5.out g c m rfl HM.out HL.out h2 ?_; intro v' w2 ho2 hg2; obtain ⟨a3, c3, rfl, _⟩ := ho2.toB.shape; have O2 : Hid (OwnL w2 base (.slice a3 (bs ++ m).length c3) (bs ++ m)) := ho2; have G2 : Hid (Kp base w w2) := Kp.app H5.out hg2; have Q2 : Hid (w2.heap[B]? = some (.cells #[.slice ao bs.length cp, .bool s.no, .int .i64 s.nd, .int .i64 s.dp, .int .i64 s.dd] 132)) := (hg2.block B (Array.getElem?_eq_some_iff.1 H4.out).1 (OwnL.apartW H5.out H4.out)).trans H4.out; have f2 : w2.frozen? ⟨B, 0, none⟩ = false := frozen_heap Q2.out 0; have k0 : w2.cell? ⟨B, 0, none⟩ = some (.slice ao bs.length cp) := cell_heap Q2.out 0; clear ho2 hg2))
  first | go_end0 | go_returns
  refine ⟨rfl, G2.out.trans (Kp.set Q2.out h1 _), m, ?_, Nat.le_refl _, fun _ => rfl⟩
  rw [HN.out]
  refine ⟨h1, ?_, h3, _, ?_, OwnL.kw O2.out Q2.out _⟩
  ·exact Nat.le_trans h2 (G2.out.trans (Kp.set Q2.out h1 _)).size
  ·rw [List.length_append]
   exact set_heap Q2.out 0 _
 ·have he' : (s.err == 0) = false := by simpa using he
  clear h4 h5 hm hl hon
  go_enter Tryz.func228, Tryz.ntmps228
  go_wp2_with (go_at_call 88; refine HR.mono ?_; rintro e w4 ⟨rfl, hw4⟩; rw [hw4]; clear hw4 w4)
  first | go_end0 | go_returns
  refine ⟨rfl, Kp.refl _ _, [], ?_, by simp, fun h => ?_⟩
  ·rw [HN.out, List.append_nil]; exact HW.out
  ·rw [HN.out] at h; exact absurd h he
theorem put_one {base : Nat} {w wr : World} {B : Nat} {s : Ws} {bs : List Int} {D : Pg.Dl} (h : WrP base w B s bs D wr) {X : Int} (hr : Rm s bs (D.app ⟨true, 0, 0, [X]⟩)) :
  Calls Tryz.prog 228 #[.pointer (some ⟨B, 0, none⟩), .slice (some ⟨wr.heap.size, 0, none⟩) 1 1] (wr.alloc (.cells #[.int .u8 X] 5)) fun e w' => e = .returned (.tuple #[]) ∧ WrP base w B s bs (D.app ⟨true, 0, 0, [X]⟩) w' := by
 refine (h.grow (World.grownBy_alloc _ _ _)).call hr (fun s' bs' hw hr => put_any (m := [X]) hw (fun j z hj => ?_) hr.2.2)
 rw [World.cell?_alloc_new]
 match j, hj with
 | 0, hj => simp at hj; subst hj; rfl
theorem groups_any {base : Nat} {w : World} {B : Nat} {s : Ws} {bs : List Int} (h : Wr base w B s bs) {x : Nat} (hx : x < 18446744073709551616) (hr : Rm s bs ⟨true, 0, 0, Pg.grp x⟩) :
  Calls Tryz.prog 209 #[.pointer (some ⟨B, 0, none⟩), .int .u64 x] w fun e w' => e = .returned (.tuple #[]) ∧ WrP base w B s bs ⟨true, 0, 0, Pg.grp x⟩ w' := by
 have HW : Hid (WrP base w B s bs .nil w) := WrP.nil h
 have HL : Hid (Rm s bs ⟨true, 0, 0, Pg.grp x⟩) := hr
 clear h hr
 go_enter Tryz.func209, Tryz.ntmps209
 go_wp2_with fail
 go_loopw [1] (fun xv wr => ∃ (y : Nat) (pre : List Int), xv = .int .u64 y ∧ y < 18446744073709551616 ∧ Pg.grp x = pre ++ Pg.grp y ∧ WrP base w B s bs ⟨true, 0, 0, pre⟩ wr) (fun xv _ => (intOf xv).toNat)
 case atStart => exact ⟨x, [], rfl, hx, rfl, HW.out⟩
 case round =>
  obtain ⟨y, pre, rfl, hy, he, hp⟩ := hrel
  have HE : Hid (Pg.grp x = pre ++ Pg.grp y) := he
  have HP : Hid (WrP base w B s bs ⟨true, 0, 0, pre⟩ wr) := hp
  clear he hp
  by_cases hb : y < 128
  ·have d1 : ¬ (128 ≤ (y : Int)) := by omega
   have d1' : decide (128 ≤ (y : Int)) = false := by simpa using d1
   have hq : (y : Int) % 256 = y := by omega
   have HR : Hid (∀ X : Int, Rm s bs ((⟨true, 0, 0, pre⟩ : Pg.Dl).app ⟨true, 0, 0, [X]⟩)) := by
    intro X
    obtain ⟨r1, r2, r3⟩ := HL.out
    rw [HE.out, Pg.grp_small hb] at r3
    refine ⟨r1, r2, ?_⟩
    simp only [Pg.Dl.app, List.length_append, List.length_cons, List.length_nil] at r3 ⊢
    omega
   have HE2 : Hid (Pg.grp x = pre ++ [(y : Int)]) := by
    show Pg.grp x = _
    rw [HE.out, Pg.grp_small hb]
   go_wp2_with (go_at_call 228; refine (put_one HP.out (HR.out _)).mono ?_; rintro e w4 ⟨rfl, h4⟩; have H4 := h4; clear h4)
   first | go_end0 | go_returns
   refine ⟨rfl, ?_⟩
   rw [HE2.out]
   exact H4
  ·have d1 : 128 ≤ (y : Int) := by omega
   have d1' : decide (128 ≤ (y : Int)) = true := by simpa using d1
   have HR : Hid (∀ X : Int, Rm s bs ((⟨true, 0, 0, pre⟩ : Pg.Dl).app ⟨true, 0, 0, [X]⟩)) := by
    intro X
    obtain ⟨r1, r2, r3⟩ := HL.out
    rw [HE.out, Pg.grp_big hb] at r3
    refine ⟨r1, r2, ?_⟩
    simp only [Pg.Dl.app, List.length_append, List.length_cons, List.length_nil] at r3 ⊢
    omega
   have HE2 : Hid (Pg.grp x = (pre ++ [((y % 128 + 128 : Nat) : Int)]) ++ Pg.grp (y / 128)) := by
    show Pg.grp x = _
    rw [HE.out, Pg.grp_big hb, List.append_assoc]
    rfl
   go_wp2_with (go_at_call 228; refine (put_one HP.out (HR.out _)).mono ?_; rintro e w4 ⟨rfl, h4⟩; have H4 := h4; clear h4)
   trace_state
   go_roundw
   case rel => exact ⟨y / 128, _, by go_num, by omega, HE2.out, H4⟩
   case measure => simp [intOf]; omega
theorem Wr.no {base : Nat} {w : World} {B : Nat} {s : Ws} {bs : List Int} (h : Wr base w B s bs) : WrP base w B s bs ⟨false, 0, 0, []⟩ (w.setCell ⟨B, 1, none⟩ (.bool true)) := by
 obtain ⟨h1, h2, h3, v, h4, h5⟩ := h
 have hk : Kp base w (w.setCell ⟨B, 1, none⟩ (.bool true)) := Kp.set h4 h1 _
 refine ⟨hk, [], ⟨h1, Nat.le_trans h2 hk.size, ?_, v, ?_, ?_⟩, Nat.le_refl _, fun _ => rfl⟩
 ·exact Ws.on_le s _ h3
 ·have := set_heap h4 1 (.bool true)
  rw [this]
  have e1 : s.on ⟨false, 0, 0, []⟩ = ⟨true, s.nd, s.dp, s.dd⟩ := by
   simp only [Ws.on, Bool.not_false, Bool.or_true, Nat.add_zero]
   rw [Nat.max_eq_left h3]
  rw [e1]
  rfl
 ·rw [List.append_nil]
  exact OwnL.kw h5 h4 _
theorem count_any {base : Nat} {w : World} {B : Nat} {s : Ws} {bs : List Int} (h : Wr base w B s bs) {n : Int} (hr : Rm s bs (Pg.dCnt n)) :
  Calls Tryz.prog 180 #[.pointer (some ⟨B, 0, none⟩), .int .i64 n] w fun e w' => e = .returned (.tuple #[]) ∧ WrP base w B s bs (Pg.dCnt n) w' := by
 by_cases h0 : 0 ≤ n
 ·obtain ⟨k, rfl⟩ := Int.eq_ofNat_of_zero_le h0
  by_cases h1 : k < 2147483648
  ·have e : Pg.dCnt (k : Int) = ⟨true, 0, 0, Pg.grp k⟩ := by
    have : Pg.okB (k : Int) = true := by simp [Pg.okB]; omega
    simp [Pg.dCnt, this]
   rw [e] at hr ⊢
   have HC := groups_any h (x := k) (by omega) hr
   have d0 : decide ((k : Int) < 0) = false := decide_eq_false (by omega)
   have d1 : decide (2147483647 < (k : Int)) = false := decide_eq_false (by omega)
   have d2 : ¬ ((k : Int) < 0) := by omega
   have d3 : ¬ (2147483647 < (k : Int)) := by omega
   clear e h h0 hr
   go_enter Tryz.func180, Tryz.ntmps180
   go_wp2_with (go_at_call 209; refine HC.mono ?_; rintro e w4 ⟨rfl, h4⟩; have H4 := h4; clear h4)
   first | go_end0 | go_returns
   exact ⟨rfl, H4⟩
  ·have e : Pg.dCnt (k : Int) = ⟨false, 0, 0, []⟩ := by
    have : Pg.okB (k : Int) = false := by simp [Pg.okB]; omega
    simp [Pg.dCnt, this]
   rw [e]
   have HC := h.no
   obtain ⟨h1', h2, h3, v, h4, h5⟩ := h
   have f1 : w.frozen? ⟨B, 1, none⟩ = false := frozen_heap h4 1
   have c1 : w.cell? ⟨B, 1, none⟩ = some (.bool s.no) := cell_heap h4 1
   have d0 : decide ((k : Int) < 0) = false := decide_eq_false (by omega)
   have d1 : decide (2147483647 < (k : Int)) = true := decide_eq_true (by omega)
   have d2 : ¬ ((k : Int) < 0) := by omega
   have d3 : 2147483647 < (k : Int) := by omega
   clear e h0 hr h1' h2 h3 h4 h5
   go_enter Tryz.func180, Tryz.ntmps180
   go_wp2
   first | go_end0 | go_returns
   exact ⟨rfl, HC⟩
 ·have e : Pg.dCnt n = ⟨false, 0, 0, []⟩ := by
   have : Pg.okB n = false := by simp [Pg.okB, h0]
   simp [Pg.dCnt, this]
  rw [e]
  have HC := h.no
  obtain ⟨h1', h2, h3, v, h4, h5⟩ := h
  have f1 : w.frozen? ⟨B, 1, none⟩ = false := frozen_heap h4 1
  have c1 : w.cell? ⟨B, 1, none⟩ = some (.bool s.no) := cell_heap h4 1
  have d0 : decide (n < 0) = true := decide_eq_true (by omega)
  have d2 : n < 0 := by omega
  clear e h0 hr h1' h2 h3 h4 h5
  go_enter Tryz.func180, Tryz.ntmps180
  go_wp2
  first | go_end0 | go_returns
  exact ⟨rfl, HC⟩
theorem fold_any {n : Int} (h : R64 n) (w : World) : Calls Tryz.prog 211 #[.int .i64 n] w fun e w' => e = .returned (.int .u64 (Pg.zig n : Nat)) ∧ w' = w := by
 obtain ⟨h0, h1⟩ := h
 by_cases hn : n < 0
 ·have d : decide (n < 0) = true := by simpa using hn
  have e : ((Pg.zig n : Nat) : Int) = 2 * (-(n + 1)) + 1 := by unfold Pg.zig; rw [if_pos hn]; omega
  rw [e]
  clear e
  go_enter Tryz.func211, Tryz.ntmps211
  go_wp2
  go_ret
  exact ⟨rfl, rfl⟩
 ·have d : decide (n < 0) = false := by simpa using hn
  have e : ((Pg.zig n : Nat) : Int) = 2 * n := by unfold Pg.zig; rw [if_neg hn]; omega
  rw [e]
  clear e
  go_enter Tryz.func211, Tryz.ntmps211
  go_wp2
  go_ret
  exact ⟨rfl, rfl⟩
theorem Wr.into1 {base : Nat} {w : World} {B : Nat} {s : Ws} {bs : List Int} (h : Wr base w B s bs) : Kp base w ((w.setCell ⟨B, 2, none⟩ (.int .i64 (s.nd + 1 : Int))).setCell ⟨B, 3, none⟩ (.int .i64 (s.dp + 1 : Int))).drew ∧ ∃ v, ((w.setCell ⟨B, 2, none⟩ (.int .i64 (s.nd + 1 : Int))).setCell ⟨B, 3, none⟩ (.int .i64 (s.dp + 1 : Int))).drew.heap[B]? = some (.cells #[v, .bool s.no, .int .i64 (s.nd + 1 : Int), .int .i64 (s.dp + 1 : Int), .int .i64 s.dd] 132) ∧ OwnL ((w.setCell ⟨B, 2, none⟩ (.int .i64 (s.nd + 1 : Int))).setCell ⟨B, 3, none⟩ (.int .i64 (s.dp + 1 : Int))).drew base v bs := by
 obtain ⟨h1, h2, h3, v, h4, h5⟩ := h
 have g1 := set_heap h4 2 (.int .i64 (s.nd + 1 : Int))
 have g2 := set_heap g1 3 (.int .i64 (s.dp + 1 : Int))
 have gd := grown_drew (World.grownBy.refl ((w.setCell ⟨B, 2, none⟩ (.int .i64 (s.nd + 1 : Int))).setCell ⟨B, 3, none⟩ (.int .i64 (s.dp + 1 : Int))) none)
 exact ⟨((Kp.set h4 h1 _).trans (Kp.set g1 h1 _)).trans (Kp.of gd), v, g2, ((h5.kw h4 _).kw g1 _).kept gd (Classical.em _)⟩
theorem Wr.into2 {base : Nat} {w W : World} {B : Nat} {s : Ws} {bs : List Int} (h : Wr base w B s bs) (hk : Kp base w W) {v : Value} (h4 : W.heap[B]? = some (.cells #[v, .bool s.no, .int .i64 (s.nd + 1 : Int), .int .i64 (s.dp + 1 : Int), .int .i64 s.dd] 132)) (h5 : OwnL W base v bs) :
  Kp base w (W.setCell ⟨B, 4, none⟩ (.int .i64 (max (s.dd : Int) (s.dp + 1)))) ∧ Wr base (W.setCell ⟨B, 4, none⟩ (.int .i64 (max (s.dd : Int) (s.dp + 1)))) B s.into bs := by
 have hk2 : Kp base w (W.setCell ⟨B, 4, none⟩ (.int .i64 (max (s.dd : Int) (s.dp + 1)))) := hk.trans (Kp.set h4 h.1 _)
 refine ⟨hk2, h.1, Nat.le_trans h.2.1 hk2.size, ?_, v, ?_, h5.kw h4 _⟩
 ·show s.dp + 1 ≤ max s.dd (s.dp + 1); omega
 ·rw [set_heap h4 4]
  have e : ((max s.dd (s.dp + 1) : Nat) : Int) = max (s.dd : Int) (s.dp + 1) := by omega
  simp only [Ws.into, e]
  rfl
theorem begin_any {base : Nat} {w : World} {B : Nat} {s : Ws} {bs : List Int} (h : Wr base w B s bs) (hn : s.nd + 1 < 33554432) (hd : s.dp + 1 < 65536) :
  Calls Tryz.prog 210 #[.pointer (some ⟨B, 0, none⟩)] w fun e w' => e = .returned (.bool true) ∧ Kp base w w' ∧ Wr base w' B s.into bs := by
 have HW : Hid (Wr base w B s bs) := h
 obtain ⟨k1, v, q4, q5⟩ := h.into1
 obtain ⟨h1', h2, h3, u, h4, h5⟩ := h
 have f2 : w.frozen? ⟨B, 2, none⟩ = false := frozen_heap h4 2
 have c2 : w.cell? ⟨B, 2, none⟩ = some (.int .i64 s.nd) := cell_heap h4 2
 have f3 : w.frozen? ⟨B, 3, none⟩ = false := frozen_heap h4 3
 have c3 : w.cell? ⟨B, 3, none⟩ = some (.int .i64 s.dp) := cell_heap h4 3
 have HK : Hid (∀ W, W = ((w.setCell ⟨B, 2, none⟩ (.int .i64 (s.nd + 1 : Int))).setCell ⟨B, 3, none⟩ (.int .i64 (s.dp + 1 : Int))).drew → Kp base w W ∧ W.heap[B]? = some (.cells #[v, .bool s.no, .int .i64 (s.nd + 1 : Int), .int .i64 (s.dp + 1 : Int), .int .i64 s.dd] 132) ∧ OwnL W base v bs) := fun W hW => by rw [hW]; exact ⟨k1, q4, q5⟩
 have z1 : decide ((s.nd : Int) + 1 < 33554432) = true := decide_eq_true (by omega)
 have z2 : decide ((s.dp : Int) + 1 < 65536) = true := decide_eq_true (by omega)
 clear k1 q4 q5 h1' h2 h3 h4 h5
 by_cases hmx : s.dd < s.dp + 1
 ·have hm1 : (s.dd : Int) < (s.dp : Int) + 1 := by omega
  clear hmx
  go_enter Tryz.func210, Tryz.ntmps210
  go_wp2_with fail
  refine tail_quiet 12 (by kernel_rfl) (by kernel_rfl) ?_
  obtain ⟨W, hW⟩ : ∃ W, W = ((w.setCell ⟨B, 2, none⟩ (.int .i64 (s.nd + 1 : Int))).setCell ⟨B, 3, none⟩ (.int .i64 (s.dp + 1 : Int))).drew := ⟨_, rfl⟩
  rw [← hW]
  obtain ⟨k1, q4, q5⟩ := HK.out W hW
  have m2 : W.cell? ⟨B, 2, none⟩ = some (.int .i64 ((s.nd : Int) + 1)) := cell_heap q4 2
  have m3 : W.cell? ⟨B, 3, none⟩ = some (.int .i64 ((s.dp : Int) + 1)) := cell_heap q4 3
  have m4 : W.cell? ⟨B, 4, none⟩ = some (.int .i64 s.dd) := cell_heap q4 4
  have f4 : W.frozen? ⟨B, 4, none⟩ = false := frozen_heap q4 4
  have HE := HW.out.into2 k1 q4 q5
  rw [show max (s.dd : Int) ((s.dp : Int) + 1) = (s.dp : Int) + 1 from by omega] at HE
  have HE : Hid (Kp base w (W.setCell ⟨B, 4, none⟩ (.int .i64 ((s.dp : Int) + 1))) ∧ Wr base (W.setCell ⟨B, 4, none⟩ (.int .i64 ((s.dp : Int) + 1))) B s.into bs) := HE
  clear hW k1 q4 q5 HK
  simp only [List.take_succ_cons, List.take_zero, List.drop_succ_cons, List.drop_zero]
  repeat (go_big_quiet_step (first | exact rfl))
  refine wpQuiet_nil ?_
  go_wp2
  go_ret
  exact ⟨rfl, HE.out⟩
 ·have hm1 : ¬ ((s.dd : Int) < (s.dp : Int) + 1) := by omega
  clear hmx
  go_enter Tryz.func210, Tryz.ntmps210
  go_wp2_with fail
  refine tail_quiet 12 (by kernel_rfl) (by kernel_rfl) ?_
  obtain ⟨W, hW⟩ : ∃ W, W = ((w.setCell ⟨B, 2, none⟩ (.int .i64 (s.nd + 1 : Int))).setCell ⟨B, 3, none⟩ (.int .i64 (s.dp + 1 : Int))).drew := ⟨_, rfl⟩
  rw [← hW]
  obtain ⟨k1, q4, q5⟩ := HK.out W hW
  have m2 : W.cell? ⟨B, 2, none⟩ = some (.int .i64 ((s.nd : Int) + 1)) := cell_heap q4 2
  have m3 : W.cell? ⟨B, 3, none⟩ = some (.int .i64 ((s.dp : Int) + 1)) := cell_heap q4 3
  have m4 : W.cell? ⟨B, 4, none⟩ = some (.int .i64 s.dd) := cell_heap q4 4
  have f4 : W.frozen? ⟨B, 4, none⟩ = false := frozen_heap q4 4
  have HE := HW.out.into2 k1 q4 q5
  rw [show max (s.dd : Int) ((s.dp : Int) + 1) = (s.dd : Int) from by omega] at HE
  have HE : Hid (Kp base w (W.setCell ⟨B, 4, none⟩ (.int .i64 ((s.dd : Int)))) ∧ Wr base (W.setCell ⟨B, 4, none⟩ (.int .i64 ((s.dd : Int)))) B s.into bs) := HE
  clear hW k1 q4 q5 HK
  simp only [List.take_succ_cons, List.take_zero, List.drop_succ_cons, List.drop_zero]
  repeat (go_big_quiet_step (first | exact rfl))
  refine wpQuiet_nil ?_
  go_wp2
  go_ret
  exact ⟨rfl, HE.out⟩
theorem Wr.outOf {base : Nat} {w : World} {B : Nat} {s : Ws} {bs : List Int} (h : Wr base w B s bs) (hd : 0 < s.dp) : Kp base w (w.setCell ⟨B, 3, none⟩ (.int .i64 ((s.dp : Int) - 1))) ∧ Wr base (w.setCell ⟨B, 3, none⟩ (.int .i64 ((s.dp : Int) - 1))) B s.out bs := by
 obtain ⟨h1, h2, h3, v, h4, h5⟩ := h
 have g1 := set_heap h4 3 (.int .i64 ((s.dp : Int) - 1))
 have hk : Kp base w (w.setCell ⟨B, 3, none⟩ (.int .i64 ((s.dp : Int) - 1))) := Kp.set h4 h1 _
 refine ⟨hk, h1, Nat.le_trans h2 hk.size, ?_, v, ?_, h5.kw h4 _⟩
 ·show s.dp - 1 ≤ s.dd; omega
 ·rw [g1]
  have e : ((s.dp - 1 : Nat) : Int) = (s.dp : Int) - 1 := by omega
  simp only [Ws.out, e]
  rfl
theorem end_any {base : Nat} {w : World} {B : Nat} {s : Ws} {bs : List Int} (h : Wr base w B s bs) (hd : 0 < s.dp) (hm : s.dp < 100000) :
  Calls Tryz.prog 214 #[.pointer (some ⟨B, 0, none⟩)] w fun e w' => e = .returned (.tuple #[]) ∧ Kp base w w' ∧ Wr base w' B s.out bs := by
 have HC := h.outOf hd
 obtain ⟨h1', h2, h3, v, h4, h5⟩ := h
 have f3 : w.frozen? ⟨B, 3, none⟩ = false := frozen_heap h4 3
 have c3 : w.cell? ⟨B, 3, none⟩ = some (.int .i64 s.dp) := cell_heap h4 3
 clear h1' h2 h3 h4 h5
 go_enter Tryz.func214, Tryz.ntmps214
 go_wp2
 first | go_end0 | go_returns
 exact ⟨rfl, HC⟩
theorem Rm.pre {s : Ws} {bs : List Int} {a b : Pg.Dl} (h : Rm s bs (a.app b)) : Rm s bs a := by
 obtain ⟨r1, r2, r3⟩ := h
 simp only [Pg.Dl.app, List.length_append] at r1 r2 r3
 exact ⟨by omega, by omega, by omega⟩
theorem Rm.into {s : Ws} {bs : List Int} {d : Pg.Dl} (h : Rm s bs d.node) : Rm s.into bs d := by
 obtain ⟨r1, r2, r3⟩ := h
 exact ⟨by show s.nd + 1 + d.nd < _; simp only [Pg.Dl.node] at r1; omega, by show s.dp + 1 + d.dp < _; simp only [Pg.Dl.node] at r2; omega, r3⟩
theorem WrP.from {base : Nat} {w w1 w2 : World} {B : Nat} {s : Ws} {bs : List Int} {d : Pg.Dl} (hk : Kp base w w1) (h : WrP base w1 B s bs d w2) : WrP base w B s bs d w2 := ⟨hk.trans h.1, h.2⟩
theorem WrP.finish {base : Nat} {w w1 w2 : World} {B : Nat} {s : Ws} {bs : List Int} {d : Pg.Dl} (hk : Kp base w w1) (h : WrP base w1 B s.into bs d w2) (hd : s.dp + 1 < 65536) :
  Calls Tryz.prog 214 #[.pointer (some ⟨B, 0, none⟩)] w2 fun e w' => e = .returned (.tuple #[]) ∧ WrP base w B s bs d.node w' := by
 obtain ⟨hk2, e, hw, hl, ho⟩ := h
 refine (end_any hw (by show 0 < s.dp + 1; omega) (by show s.dp + 1 < _; omega)).mono ?_
 rintro r w3 ⟨rfl, hk3, hw3⟩
 refine ⟨rfl, (hk.trans hk2).trans hk3, e, ?_, hl, fun h => ho ?_⟩
 ·rw [← Ws.on_node]; exact hw3
 ·rw [← Ws.on_node] at h
  exact h
theorem put_txt {base : Nat} {w w4 : World} {B : Nat} {s : Ws} {bs : List Int} {D : Pg.Dl} (h : WrP base w B s bs D w4) {x : ByteArray} {cap : Nat} {fr : Nat × Nat} (hr : Rm s bs (D.app ⟨true, 0, 0, Pg.txt x⟩)) :
  Calls Tryz.prog 228 #[.pointer (some ⟨B, 0, none⟩), .slice (some ⟨w4.heap.size, 0, none⟩) x.size cap] (w4.alloc (.cells (bytesRow x cap) 5 fr)).drew fun e w' => e = .returned (.tuple #[]) ∧ WrP base w B s bs (D.app ⟨true, 0, 0, Pg.txt x⟩) w' := by
 have hg : w4.grownBy (w4.alloc (.cells (bytesRow x cap) 5 fr)).drew none := grown_drew (World.grownBy_alloc _ _ _)
 refine (h.grow hg).call hr (fun s' bs' hw hr => ?_)
 have := put_any (g := w4.heap.size) (c := cap) (m := Pg.txt x) hw (fun j z hj => ?_) hr.2.2
 ·rw [Pg.txt_len] at this
  exact this
 ·have hj' : j < x.size := by
   have := (List.getElem?_eq_some_iff.1 hj).1
   rwa [Pg.txt_len] at this
  show (w4.alloc (.cells (bytesRow x cap) 5 fr)).cell? ⟨w4.heap.size, j, none⟩ = _
  rw [World.cell?_alloc_mark]
  unfold bytesRow
  rw [Array.getElem?_append_left (by simpa using hj')]
  rw [Pg.txt, List.getElem?_map] at hj
  rw [Array.getElem?_map]
  rw [Array.getElem?_toList] at hj
  obtain ⟨b, hb, rfl⟩ := Option.map_eq_some_iff.1 hj
  rw [hb]
  rfl
theorem text_any {base : Nat} {w : World} {B : Nat} {s : Ws} {bs : List Int} (h : Wr base w B s bs) {x : ByteArray} (hr : Rm s bs (Pg.dTxt x)) :
  Calls Tryz.prog 229 #[.pointer (some ⟨B, 0, none⟩), .string x] w fun e w' => e = .returned (.tuple #[]) ∧ WrP base w B s bs (Pg.dTxt x) w' := by
 by_cases hx : x.size ≤ 256
 ·have e : Pg.dTxt x = (Pg.dCnt (x.size : Int)).app ⟨true, 0, 0, Pg.txt x⟩ := by
   have : Pg.okB (x.size : Int) = true := by simp [Pg.okB]; omega
   simp [Pg.dTxt, hx, Pg.dCnt, this, Pg.Dl.app]
  rw [e] at hr ⊢
  have HR : Hid (Rm s bs ((Pg.dCnt (x.size : Int)).app ⟨true, 0, 0, Pg.txt x⟩)) := hr
  have r1 : Rm s bs (Pg.dCnt (x.size : Int)) := by
   obtain ⟨r1, r2, r3⟩ := hr
   simp only [Pg.Dl.app, List.length_append] at r1 r2 r3
   exact ⟨by omega, by omega, by omega⟩
  have HC := count_any h r1
  have d1 : decide (256 < (x.size : Int)) = false := decide_eq_false (by omega)
  have d2 : ¬ (256 < (x.size : Int)) := by omega
  have hcv := fun W => run_bytes_of_string (P := Tryz.prog) W 9 36 5 x (by kernel_rfl) (by kernel_rfl) (by kernel_rfl)
  clear e h hr r1
  go_enter Tryz.func229, Tryz.ntmps229
  go_wp2_with (first
   | (go_at_call 180; refine HC.mono ?_; rintro e w4 ⟨rfl, h4⟩; have H4 : Hid (WrP base w B s bs (Pg.dCnt (x.size : Int)) w4) := h4; clear h4)
   | (go_at_call 228; refine (put_txt H4.out HR.out).mono ?_; rintro e w5 ⟨rfl, h5⟩; have H5 := h5; clear h5))
  first | go_end0 | go_returns
  exact ⟨rfl, H5⟩
 ·have e : Pg.dTxt x = ⟨false, 0, 0, []⟩ := by simp [Pg.dTxt, hx]
  rw [e]
  have HC := h.no
  obtain ⟨h1', h2, h3, v, h4, h5⟩ := h
  have f1 : w.frozen? ⟨B, 1, none⟩ = false := frozen_heap h4 1
  have c1 : w.cell? ⟨B, 1, none⟩ = some (.bool s.no) := cell_heap h4 1
  have d1 : decide (256 < (x.size : Int)) = true := decide_eq_true (by omega)
  have d2 : 256 < (x.size : Int) := by omega
  clear e hr h1' h2 h3 h4 h5
  go_enter Tryz.func229, Tryz.ntmps229
  go_wp2
  first | go_end0 | go_returns
  exact ⟨rfl, HC⟩
theorem wNums {base : Nat} {w : World} {B : Nat} {s : Ws} {bs : List Int} (h : Wr base w B s bs) {l : List Int} (hr : Rm s bs ((Pg.dCnt l.length).app (Pg.dCat Pg.dCnt l))) {a : Option Addr} {c : Nat} (hL : NumL (fun k => k < base) w a c l) :
  Calls Tryz.prog 181 #[.pointer (some ⟨B, 0, none⟩), .slice a l.length c, .func (.func 180) #[.pointer (some ⟨B, 0, none⟩)] #[]] w fun e w' => e = .returned (.tuple #[]) ∧ WrP base w B s bs ((Pg.dCnt l.length).app (Pg.dCat Pg.dCnt l)) w' := by
 have hle := hL.le
 have hmx := hL.max
 unfold maxLen at hmx
 have HL : Hid (NumL (fun k => k < base) w a c l) := hL
 have HR : Hid (∀ k, k ≤ l.length → Rm s bs ((Pg.dCnt l.length).app (Pg.dCat Pg.dCnt (l.take k)))) := by
  intro k _
  obtain ⟨r1, r2, r3⟩ := hr
  obtain ⟨q1, q2, q3, _⟩ := Pg.dCat_le Pg.dCnt l k
  simp only [Pg.Dl.app, List.length_append] at r1 r2 r3
  refine ⟨?_, ?_, ?_⟩
  ·show s.nd + ((Pg.dCnt l.length).nd + _) < _; omega
  ·show s.dp + max (Pg.dCnt l.length).dp _ < _; omega
  ·show bs.length + ((Pg.dCnt l.length).en ++ _).length ≤ _
   rw [List.length_append]; omega
 have HC := count_any h (n := (l.length : Int)) (by
  have := HR.out 0 (Nat.zero_le _)
  rw [List.take_zero, Pg.dCat, Pg.Dl.app_nil] at this
  exact this)
 clear h hr hL
 go_enter Tryz.func181, Tryz.ntmps181
 go_wp2_with (go_at_call 180; refine HC.mono ?_; rintro e w4 ⟨rfl, h4⟩; have H4 : Hid (WrP base w B s bs (Pg.dCnt (l.length : Int)) w4) := h4; clear h4)
 clear HC
 go_loopw [14] (fun ix wr => ∃ k : Nat, ix = .int .i64 k ∧ k ≤ l.length ∧ WrP base w B s bs ((Pg.dCnt l.length).app (Pg.dCat Pg.dCnt (l.take k))) wr) (fun ix _ => l.length - (intOf ix).toNat)
 case atStart => exact ⟨0, rfl, Nat.zero_le _, by rw [List.take_zero, Pg.dCat, Pg.Dl.app_nil]; exact H4.out⟩
 case round =>
  obtain ⟨k, rfl, hk, hp⟩ := hrel
  have HP : Hid (WrP base w B s bs ((Pg.dCnt l.length).app (Pg.dCat Pg.dCnt (l.take k))) wr) := hp
  by_cases hkn : k < l.length
  case neg =>
   obtain rfl : k = l.length := by omega
   clear hp
   go_wp2
   first | go_end0 | go_returns
   have := HP.out
   rw [List.take_length] at this
   exact ⟨rfl, this⟩
  have hkn' : (k : Int) < l.length := by omega
  have hrow : NumL (fun k => k < base) wr a c l := NumL.ch HL.out hp.1.ch (fun k hk => not_range hk) (fun _ h => h)
  obtain ⟨b, o, rfl, hb, hx⟩ := hrow.at hkn
  have HR1 : Hid (Rm s bs (((Pg.dCnt l.length).app (Pg.dCat Pg.dCnt (l.take k))).app (Pg.dCnt l[k]))) := by
   have := HR.out (k + 1) (by omega)
   rw [Pg.dCat_succ _ hkn, ← Pg.Dl.app_assoc] at this
   exact this
  have HS : Hid ((Pg.dCnt l.length).app (Pg.dCat Pg.dCnt (l.take (k + 1))) = ((Pg.dCnt l.length).app (Pg.dCat Pg.dCnt (l.take k))).app (Pg.dCnt l[k])) := by
   show _ = _
   rw [Pg.dCat_succ _ hkn, ← Pg.Dl.app_assoc]
  have c0 : wr.cell? ⟨b, o + k, none⟩ = some (.int .i64 l[k]) := by rw [Nat.mul_one] at hx; exact hx
  have HC : Hid (Calls Tryz.prog 180 #[.pointer (some ⟨B, 0, none⟩), .int .i64 l[k]] wr fun e w' => e = .returned (.tuple #[]) ∧ WrP base w B s bs (((Pg.dCnt l.length).app (Pg.dCat Pg.dCnt (l.take k))).app (Pg.dCnt l[k])) w') := hp.call HR1.out (fun s' bs' hw hr => count_any hw hr)
  clear hp hx hrow
  generalize l[k] = x at *
  go_wp2_with (go_at_call 180; refine HC.out.mono ?_; rintro e w5 ⟨rfl, h5⟩; have H5 : Hid (WrP base w B s bs (((Pg.dCnt l.length).app (Pg.dCat Pg.dCnt (l.take k))).app (Pg.dCnt x)) w5) := h5; clear h5)
  go_roundw
  case rel => exact ⟨k + 1, by go_num, by omega, by rw [HS.out]; exact H5.out⟩
  case measure => simp [intOf]; omega
def TermOk (x : Pg.Ex) : Prop := ∀ (base : Nat) (w : World) (B : Nat) (s : Ws) (bs : List Int) (a1 : Option Addr) (k1 : Nat), Wr base w B s bs → Rm s bs x.dl → R64 x.n → ExL (fun k => k < base) w a1 k1 x.args →
 Calls Tryz.prog 213 #[.pointer (some ⟨B, 0, none⟩), .agg #[.int .i64 x.op, .int .i64 x.t, .int .i64 x.n, .string x.s, .slice a1 x.args.length k1]] w fun e w' => e = .returned (.tuple #[]) ∧ WrP base w B s bs x.dl w'
theorem wEs_list {base : Nat} {w : World} {B : Nat} {s : Ws} {bs : List Int} (h : Wr base w B s bs) {l : List Pg.Ex} (hr : Rm s bs ((Pg.dCnt l.length).app (Pg.dCat Pg.Ex.dl l))) {a : Option Addr} {c : Nat} (hL : ExL (fun k => k < base) w a c l) (ih : ∀ x, x ∈ l → TermOk x) :
  Calls Tryz.prog 212 #[.pointer (some ⟨B, 0, none⟩), .slice a l.length c, .func (.func 213) #[.pointer (some ⟨B, 0, none⟩)] #[]] w fun e w' => e = .returned (.tuple #[]) ∧ WrP base w B s bs ((Pg.dCnt l.length).app (Pg.dCat Pg.Ex.dl l)) w' := by
 have hle := hL.le
 have hmx := hL.max
 unfold maxLen at hmx
 have HL : Hid (ExL (fun k => k < base) w a c l) := hL
 have HR : Hid (∀ k, k ≤ l.length → Rm s bs ((Pg.dCnt l.length).app (Pg.dCat Pg.Ex.dl (l.take k)))) := by
  intro k _
  obtain ⟨r1, r2, r3⟩ := hr
  obtain ⟨q1, q2, q3, _⟩ := Pg.dCat_le Pg.Ex.dl l k
  simp only [Pg.Dl.app, List.length_append] at r1 r2 r3
  refine ⟨?_, ?_, ?_⟩
  ·show s.nd + ((Pg.dCnt l.length).nd + _) < _; omega
  ·show s.dp + max (Pg.dCnt l.length).dp _ < _; omega
  ·show bs.length + ((Pg.dCnt l.length).en ++ _).length ≤ _
   rw [List.length_append]; omega
 have HI : Hid (∀ x, x ∈ l → TermOk x) := ih
 have HC := count_any h (n := (l.length : Int)) (by
  have := HR.out 0 (Nat.zero_le _)
  rw [List.take_zero, Pg.dCat, Pg.Dl.app_nil] at this
  exact this)
 clear h hr hL ih
 go_enter Tryz.func212, Tryz.ntmps212
 go_wp2_with (go_at_call 180; refine HC.mono ?_; rintro e w4 ⟨rfl, h4⟩; have H4 : Hid (WrP base w B s bs (Pg.dCnt (l.length : Int)) w4) := h4; clear h4)
 clear HC
 go_loopw [14] (fun ix wr => ∃ k : Nat, ix = .int .i64 k ∧ k ≤ l.length ∧ WrP base w B s bs ((Pg.dCnt l.length).app (Pg.dCat Pg.Ex.dl (l.take k))) wr) (fun ix _ => l.length - (intOf ix).toNat)
 case atStart => exact ⟨0, rfl, Nat.zero_le _, by rw [List.take_zero, Pg.dCat, Pg.Dl.app_nil]; exact H4.out⟩
 case round =>
  obtain ⟨k, rfl, hk, hp⟩ := hrel
  have HP : Hid (WrP base w B s bs ((Pg.dCnt l.length).app (Pg.dCat Pg.Ex.dl (l.take k))) wr) := hp
  by_cases hkn : k < l.length
  case neg =>
   obtain rfl : k = l.length := by omega
   clear hp
   go_wp2
   first | go_end0 | go_returns
   have := HP.out
   rw [List.take_length] at this
   exact ⟨rfl, this⟩
  have hkn' : (k : Int) < l.length := by omega
  have hrow : ExL (fun k => k < base) wr a c l := ExL.ch HL.out hp.1.ch (fun k hk => not_range hk) (fun _ h => h)
  obtain ⟨b, o, rfl, hb, hx⟩ := hrow.at hkn
  have HR1 : Hid (Rm s bs (((Pg.dCnt l.length).app (Pg.dCat Pg.Ex.dl (l.take k))).app (Pg.Ex.dl l[k]))) := by
   have := HR.out (k + 1) (by omega)
   rw [Pg.dCat_succ _ hkn, ← Pg.Dl.app_assoc] at this
   exact this
  have HS : Hid ((Pg.dCnt l.length).app (Pg.dCat Pg.Ex.dl (l.take (k + 1))) = ((Pg.dCnt l.length).app (Pg.dCat Pg.Ex.dl (l.take k))).app (Pg.Ex.dl l[k])) := by
   show _ = _
   rw [Pg.dCat_succ _ hkn, ← Pg.Dl.app_assoc]
  obtain ⟨a1, k1, he⟩ := hx.row
  have c0 := he.c0
  have c1 := he.c1
  have c2 := he.c2
  have c3 := he.c3
  have c4 := he.c4
  have HC : Hid (Calls Tryz.prog 213 #[.pointer (some ⟨B, 0, none⟩), .agg #[.int .i64 l[k].op, .int .i64 l[k].t, .int .i64 l[k].n, .string l[k].s, .slice a1 l[k].args.length k1]] (wr.alloc (.cells #[.int .i64 l[k].op, .int .i64 l[k].t, .int .i64 l[k].n, .string l[k].s, .slice a1 l[k].args.length k1] 45)) fun e w' => e = .returned (.tuple #[]) ∧ WrP base w B s bs (((Pg.dCnt l.length).app (Pg.dCat Pg.Ex.dl (l.take k))).app (Pg.Ex.dl l[k])) w') := (hp.grow (World.grownBy_alloc _ _ _)).call HR1.out (fun s' bs' hw hr => HI.out l[k] (List.getElem_mem hkn) base _ B s' bs' a1 k1 hw hr he.rg (ExL.grow he.args (World.grownBy_alloc _ _ _)))
  clear he
  clear hp hx hrow
  generalize l[k] = x at *
  go_wp2_with (go_at_call 213; refine HC.out.mono ?_; rintro e w5 ⟨rfl, h5⟩; have H5 : Hid (WrP base w B s bs (((Pg.dCnt l.length).app (Pg.dCat Pg.Ex.dl (l.take k))).app (Pg.Ex.dl x)) w5) := h5; clear h5)
  go_roundw
  case rel => exact ⟨k + 1, by go_num, by omega, by rw [HS.out]; exact H5.out⟩
  case measure => simp [intOf]; omega
end Go.Proofs.YtpcgkggpmipiaaaGreat
