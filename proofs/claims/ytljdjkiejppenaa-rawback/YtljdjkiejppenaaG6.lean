/- Contracts and plain facts that the walks share. -/
import Derived.Test.YtljdjkiejppenaaPgEq
import Derived.Test.YtljdjkiejppenaaG1
import Derived.OwnWalk
import Derived.Laws.CopyOwn
import Derived.Laws.AppendOwnNone
import Derived.Deep.Onto
import Derived.Laws.BitsAllLaws
import Derived.Defers
import Derived.Recover
import Derived.BigRegion
import Derived.Deep.RegionWith
namespace Go.Proofs.Ytljdjkiejppenaa
open Go.RowKit
set_option linter.unusedVariables false
namespace Pg
def okB (n : Int) : Bool := decide (0 ≤ n) && decide (n < 2147483648)
mutual
def Ex.may : Ex → Bool
  | .mk op t _ s args => mayEs args && (okB op && okB t && decide ((s.size : Int) ≤ 256))
def mayEs : List Ex → Bool
  | [] => true
  | x :: l => x.may && mayEs l
end
theorem mayEs_all (l : List Ex) : mayEs l = l.all Ex.may := by
  induction l with
  | nil => rfl
  | cons x l ih => simp only [mayEs, ih, List.all_cons]
theorem Ex.may_eq (x : Ex) : x.may = (x.args.all Ex.may && (okB x.op && okB x.t && decide ((x.s.size : Int) ≤ 256))) := by
  obtain ⟨_, _, _, _, _⟩ := x
  rw [Ex.may, mayEs_all]
  rfl
end Pg
namespace Pg
mutual
def St.may : St → Bool
  | .mk op _ args dst a b => mayEs args && (okB op && (dst.all okB && (maySs a && maySs b)))
def maySs : List St → Bool
  | [] => true
  | x :: l => x.may && maySs l
end
theorem maySs_all (l : List St) : maySs l = l.all St.may := by
  induction l with
  | nil => rfl
  | cons x l ih => simp only [maySs, ih, List.all_cons]
theorem St.may_eq (x : St) : x.may = (x.args.all Ex.may && (okB x.op && (x.dst.all okB && (x.a.all St.may && x.b.all St.may)))) := by
  obtain ⟨_, _, _, _, _, _⟩ := x
  rw [St.may, mayEs_all, maySs_all, maySs_all]
  rfl
end Pg
namespace Pg
/-- groups of seven bits -/
def grp (x : Nat) : List Int := if h : x < 128 then [(x : Int)] else ((x % 128 + 128 : Nat) : Int) :: grp (x / 128)
termination_by x
decreasing_by omega
theorem grp_small {x : Nat} (h : x < 128) : grp x = [(x : Int)] := by rw [grp, dif_pos h]
theorem grp_big {x : Nat} (h : ¬ x < 128) : grp x = ((x % 128 + 128 : Nat) : Int) :: grp (x / 128) := by rw [grp, dif_neg h]
theorem grp_len : ∀ (k x : Nat), x < 128 ^ (k + 1) → (grp x).length ≤ k + 1
  | 0, x, h => by rw [grp_small (by omega)]; simp
  | k + 1, x, h => by
    by_cases h1 : x < 128
    · rw [grp_small h1]; simp
    · rw [grp_big h1, List.length_cons]
      have := grp_len k (x / 128) (by rw [Nat.div_lt_iff_lt_mul (by omega)]; rw [Nat.pow_succ] at h; exact h)
      omega
/-- the number that a signed number stands as -/
def zig (n : Int) : Nat := if n < 0 then (2 * (-(n + 1)) + 1).toNat else (2 * n).toNat
theorem zig_lt {n : Int} (h : R64 n) : zig n < 18446744073709551616 := by
  obtain ⟨h0, h1⟩ := h
  unfold zig
  split <;> omega
/-- what is laid down, counted and looked at -/
structure Dl where
  may : Bool
  nd : Nat
  dp : Nat
  en : List Int
def Dl.nil : Dl := ⟨true, 0, 0, []⟩
def Dl.app (a b : Dl) : Dl := ⟨a.may && b.may, a.nd + b.nd, max a.dp b.dp, a.en ++ b.en⟩
def Dl.node (d : Dl) : Dl := ⟨d.may, d.nd + 1, d.dp + 1, d.en⟩
theorem Dl.nil_app (a : Dl) : Dl.nil.app a = a := by obtain ⟨m, n, d, e⟩ := a; simp [Dl.app, Dl.nil]
theorem Dl.app_nil (a : Dl) : a.app Dl.nil = a := by obtain ⟨m, n, d, e⟩ := a; simp [Dl.app, Dl.nil]
theorem Dl.app_assoc (a b c : Dl) : (a.app b).app c = a.app (b.app c) := by simp [Dl.app, Bool.and_assoc, Nat.add_assoc, Nat.max_assoc]
def dCnt (n : Int) : Dl := ⟨okB n, 0, 0, if okB n then grp n.toNat else []⟩
def dNum (n : Int) : Dl := ⟨true, 0, 0, grp (zig n)⟩
/-- a text's bytes -/
def txt (s : ByteArray) : List Int := s.data.toList.map (fun b => (b.toNat : Int))
theorem txt_len (s : ByteArray) : (txt s).length = s.size := by simp [txt]
def dTxt (s : ByteArray) : Dl := if s.size ≤ 256 then ⟨true, 0, 0, grp s.size ++ txt s⟩ else ⟨false, 0, 0, []⟩
def dNums : List Int → Dl
  | [] => .nil
  | n :: l => (dCnt n).app (dNums l)
def dNumL (l : List Int) : Dl := (dCnt l.length).app (dNums l)
mutual
def Ex.dl : Ex → Dl
  | .mk op t n s args => ((dCnt op).app ((dCnt t).app ((dNum n).app ((dTxt s).app ((dCnt args.length).app (dEs args)))))).node
def dEs : List Ex → Dl
  | [] => .nil
  | x :: l => x.dl.app (dEs l)
end
def dExL (l : List Ex) : Dl := (dCnt l.length).app (dEs l)
mutual
def St.dl : St → Dl
  | .mk op n args dst a b => ((dCnt op).app ((dNum n).app ((dExL args).app ((dNumL dst).app (((dCnt a.length).app (dSs a)).app ((dCnt b.length).app (dSs b))))))).node
def dSs : List St → Dl
  | [] => .nil
  | x :: l => x.dl.app (dSs l)
end
def dStL (l : List St) : Dl := (dCnt l.length).app (dSs l)
theorem Ex.dl_eq (x : Ex) : x.dl = ((dCnt x.op).app ((dCnt x.t).app ((dNum x.n).app ((dTxt x.s).app (dExL x.args))))).node := by
  obtain ⟨_, _, _, _, _⟩ := x
  rw [Ex.dl]
  rfl
theorem St.dl_eq (x : St) : x.dl = ((dCnt x.op).app ((dNum x.n).app ((dExL x.args).app ((dNumL x.dst).app ((dStL x.a).app (dStL x.b)))))).node := by
  obtain ⟨_, _, _, _, _, _⟩ := x
  rw [St.dl]
  rfl
def Tp.dl (x : Tp) : Dl := (dCnt x.kind).app ((dCnt x.elem).app ((dCnt x.n).app (dNumL x.fields)))
def Fn.dl (x : Fn) : Dl := (dCnt x.params).app ((dNumL x.locals).app ((dNumL x.results).app (dStL x.body)))
def dTs : List Tp → Dl
  | [] => .nil
  | x :: l => x.dl.app (dTs l)
def dFs : List Fn → Dl
  | [] => .nil
  | x :: l => x.dl.app (dFs l)
def Pr.dl (p : Pr) : Dl := ((dCnt p.types.length).app (dTs p.types)).app ((dCnt p.funcs.length).app (dFs p.funcs))
/-- a row of deltas, one behind the other -/
def dCat {α : Type} (f : α → Dl) : List α → Dl
  | [] => .nil
  | x :: l => (f x).app (dCat f l)
theorem dCat_app {α : Type} (f : α → Dl) (l m : List α) : dCat f (l ++ m) = (dCat f l).app (dCat f m) := by
  induction l with
  | nil => rw [List.nil_append, dCat, Dl.nil_app]
  | cons x l ih => rw [List.cons_append, dCat, ih, dCat, Dl.app_assoc]
theorem dCat_succ {α : Type} (f : α → Dl) {l : List α} {k : Nat} (h : k < l.length) : dCat f (l.take (k + 1)) = (dCat f (l.take k)).app (f l[k]) := by
  rw [List.take_succ_eq_append_getElem h, dCat_app]
  simp [dCat, Dl.app_nil]
theorem dEs_cat (l : List Ex) : dEs l = dCat Ex.dl l := by
  induction l with
  | nil => rfl
  | cons x l ih => rw [dEs, ih, dCat]
theorem dSs_cat (l : List St) : dSs l = dCat St.dl l := by
  induction l with
  | nil => rfl
  | cons x l ih => rw [dSs, ih, dCat]
theorem dNums_cat (l : List Int) : dNums l = dCat dCnt l := by
  induction l with
  | nil => rfl
  | cons x l ih => rw [dNums, ih, dCat]
theorem dTs_cat (l : List Tp) : dTs l = dCat Tp.dl l := by
  induction l with
  | nil => rfl
  | cons x l ih => rw [dTs, ih, dCat]
theorem dFs_cat (l : List Fn) : dFs l = dCat Fn.dl l := by
  induction l with
  | nil => rfl
  | cons x l ih => rw [dFs, ih, dCat]
/-- a part of it is no more than the whole -/
theorem dCat_le {α : Type} (f : α → Dl) (l : List α) (k : Nat) : (dCat f (l.take k)).nd ≤ (dCat f l).nd ∧ (dCat f (l.take k)).dp ≤ (dCat f l).dp ∧ (dCat f (l.take k)).en.length ≤ (dCat f l).en.length ∧ ((dCat f l).may = true → (dCat f (l.take k)).may = true) := by
  have := dCat_app f (l.take k) (l.drop k)
  rw [List.take_append_drop] at this
  rw [this]
  simp only [Dl.app, List.length_append]
  refine ⟨by omega, by omega, by omega, fun h => ?_⟩
  simp only [Bool.and_eq_true] at h
  exact h.1
end Pg
theorem IsMem.cell {t : TypeId} {w : World} {B D S : Nat} {m : Nat → Int} (h : IsMem t w B D S m) : w.cell? ⟨B, 0, none⟩ = some (.slice (some ⟨D, 0, none⟩) S S) := h.head.cell (i := 0) (by omega)

theorem info_u8 : (Try.prog.info? 5).map (fun i => (i.zero, i.size, i.bytes)) = some (some (.int .u8 0), 1, 1) := by kernel_rfl

namespace Mm
theorem by_cases (k : Int) : (Wd.wordB k = false ∧ Wd.by' k = 0) ∨ (Wd.wordB k = true ∧ (Wd.by' k = 1 ∨ Wd.by' k = 2 ∨ Wd.by' k = 4 ∨ Wd.by' k = 8)) := by
  rcases Wd.kinds k with h | h | h | h | h | h | h | h | h | h | h | h
  all_goals first
    | (subst h; right; exact ⟨rfl, by decide⟩)
    | (left; constructor
       · unfold Wd.wordB; simp; omega
       · unfold Wd.by' Wd.wid; rw [if_neg (by omega), if_neg (by omega), if_neg (by omega), if_neg (by omega), if_neg (by omega)]; rfl)
end Mm

theorem IsMem.put {t : TypeId} {w w' : World} {B D S : Nat} {m m' : Nat → Int} (h : IsMem t w B D S m) (hg : w.grownBy w' (some D)) (ht : t ≠ 5) (hr : w'.rowIs D 5 S (fun i => .int .u8 (m' i))) (hf : Mm.Fit m') : IsMem t w' B D S m' := by
  refine ⟨h.head.of_block (hg.block B h.head.lt ?_), hr, hf⟩
  intro e
  injection e with e
  subst e
  obtain ⟨c, hc, _⟩ := h.head
  obtain ⟨d, hd, _⟩ := h.row
  rw [hc] at hd
  injection hd with hd
  injection hd with _ hd
  exact ht hd

def bytesL (n : Nat) (g : Nat → Int) : List Value := (List.range n).map fun i => .int .u8 (g i)
theorem bytesL_len (n : Nat) (g : Nat → Int) : (bytesL n g).length = n := by simp [bytesL]
theorem bytesL_get {n : Nat} {g : Nat → Int} {j : Nat} {v : Value} (h : (bytesL n g)[j]? = some v) : j < n ∧ v = .int .u8 (g j) := by
  have hj : j < n := by
    rw [← bytesL_len n g]
    exact (List.getElem?_eq_some_iff.1 h).1
  refine ⟨hj, ?_⟩
  simp [bytesL, hj] at h
  exact h.symm
theorem bytesL_at {n : Nat} (g : Nat → Int) {j : Nat} (h : j < n) : (bytesL n g)[j]? = some (.int .u8 (g j)) := by simp [bytesL, h]
theorem bytesL_one (n : Nat) (g : Nat → Int) : ∀ v ∈ bytesL n g, v.oneCell' = true := by
  intro v hv
  obtain ⟨i, _, rfl⟩ := List.mem_map.1 hv
  rfl
theorem add_none (b off n : Nat) : (⟨b, off, none⟩ : Addr).add n = ⟨b, off + n, none⟩ := by
  unfold Addr.add; split <;> simp_all

/-- bytes that the call itself made -/
def OwnB (w : World) (base : Nat) (v : Value) (n : Nat) (g : Nat → Int) : Prop := w.ownsRow base 5 1 v n (bytesL n g)

theorem OwnB.kept {w w' : World} {base n : Nat} {v : Value} {g : Nat → Int} {row : Option Nat} (h : OwnB w base v n g) (hg : w.grownBy w' row) (hne : v.ownBlock = none ∨ v.ownBlock ≠ row) : OwnB w' base v n g := World.ownsRow.kept h hg hne
theorem OwnB.lt {w : World} {base n : Nat} {v : Value} {g : Nat → Int} (h : OwnB w base v n g) : ∀ k, v.ownBlock = some k → base ≤ k ∧ k < w.heap.size := World.ownsRow.lt h
theorem OwnB.shape {w : World} {base n : Nat} {v : Value} {g : Nat → Int} (h : OwnB w base v n g) : ∃ ao cap, v = .slice ao n cap ∧ (ao = none → n = 0 ∧ cap = 0) ∧ n ≤ cap ∧ cap ≤ maxLen ∧ Bs w ao n g := by
  obtain ⟨hl, h⟩ := h
  rcases h with ⟨rfl, rfl⟩ | ⟨b, cap, cur, rfl, hb, hh, hn, hc, hs, ht⟩
  · exact ⟨none, 0, rfl, fun _ => ⟨rfl, rfl⟩, Nat.le_refl _, by unfold maxLen; omega, .inl rfl⟩
  · refine ⟨some ⟨b, 0, none⟩, cap, rfl, (fun h => by cases h), hn, hc, .inr ⟨b, 0, rfl, fun i hi => ?_⟩⟩
    have h1 : (bytesL n g)[i]? = some (.int .u8 (g i)) := bytesL_at g hi
    rw [← ht, List.getElem?_take, if_pos (by omega)] at h1
    simp only [World.cell?, hh]
    simpa using h1

theorem Bs.at {w : World} {ao : Option Addr} {n : Nat} {g : Nat → Int} (h : Bs w ao n g) (hn : 0 < n) : ∃ b off, ao = some ⟨b, off, none⟩ ∧ ∀ i, i < n → w.cell? ⟨b, off + i, none⟩ = some (.int .u8 (g i)) := by
  rcases h with h | h
  · omega
  · exact h

set_option maxHeartbeats 800000 in
theorem eq_true (n ca cb b o b' o' : Nat) (g g' : Nat → Int) (w : World) (hn : (n : Int) ≤ 140737488351232)
    (ha : ∀ i, i < n → w.cell? ⟨b, o + i, none⟩ = some (.int .u8 (g i))) (hb : ∀ i, i < n → w.cell? ⟨b', o' + i, none⟩ = some (.int .u8 (g' i))) (he : ∀ i, i < n → g i = g' i) :
    Calls Try.prog 11 #[.slice (some ⟨b, o, none⟩) n ca, .slice (some ⟨b', o', none⟩) n cb] w fun e w' => e = .returned (.bool true) ∧ ∃ d, w' = w.drewN d := by
  have HA : Hid (∀ i, i < n → w.cell? ⟨b, o + i, none⟩ = some (.int .u8 (g i))) := ha
  have HB : Hid (∀ i, i < n → w.cell? ⟨b', o' + i, none⟩ = some (.int .u8 (g' i))) := hb
  have HE : Hid (∀ i, i < n → g i = g' i) := he
  clear ha hb he
  go_enter Try.func11, Try.ntmps11
  go_wp2
  go_loopw [5] (fun s wr => ∃ k : Nat, k ≤ n ∧ s = .int .i64 k ∧ ∃ d, wr = w.drewN d) (fun s _ => n - (intOf s).toNat)
  case atStart => exact ⟨0, Nat.zero_le _, rfl, 0, rfl⟩
  case round =>
    obtain ⟨k, hk, rfl, d, rfl⟩ := hrel
    by_cases hlt : k < n
    · have c1 : (w.drewN d).cell? ⟨b, o + k, none⟩ = some (.int .u8 (g k)) := HA.out k hlt
      have c2 : (w.drewN d).cell? ⟨b', o' + k, none⟩ = some (.int .u8 (g k)) := by rw [HE.out k hlt]; exact HB.out k hlt
      have HW : Hid (∃ d', w.drewN d = w.drewN d') := ⟨d, rfl⟩
      have hlt' : (k : Int) < (n : Int) := by omega
      generalize w.drewN d = W at *
      generalize g k = y at *
      go_wp2_with fail
      go_quiet (fail)
      go_wp2
      go_roundw
      case rel => obtain ⟨d', rfl⟩ := HW.out; exact ⟨k + 1, by omega, by go_num, _, World.drewN_drewN _ _ _⟩
      case measure => simp [intOf]; omega
    · obtain rfl : k = n := by omega
      go_wp2
      go_ret
      exact ⟨rfl, d, rfl⟩

set_option maxHeartbeats 800000 in
theorem eq_none (ca cb : Nat) (ao bo : Option Addr) (w : World) :
    Calls Try.prog 11 #[.slice ao 0 ca, .slice bo 0 cb] w fun e w' => e = .returned (.bool true) ∧ ∃ d, w' = w.drewN d := by
  go_enter Try.func11, Try.ntmps11
  go_wp2
  go_loopw [5] (fun s wr => s = .int .i64 0 ∧ wr = w) (fun s _ => 0)
  case atStart => exact ⟨rfl, rfl⟩
  case round =>
    obtain ⟨rfl, rfl⟩ := hrel
    go_wp2
    go_ret
    exact ⟨rfl, 0, rfl⟩

theorem eqB (n ca cb : Nat) (ao bo : Option Addr) (g g' : Nat → Int) (w : World) (hn : (n : Int) ≤ 140737488351232) (ha : Bs w ao n g) (hb : Bs w bo n g') (he : ∀ i, i < n → g i = g' i) :
    Calls Try.prog 11 #[.slice ao n ca, .slice bo n cb] w fun e w' => e = .returned (.bool true) ∧ ∃ d, w' = w.drewN d := by
  by_cases h0 : n = 0
  · subst h0; exact eq_none ca cb ao bo w
  · obtain ⟨b, o, rfl, ha1⟩ := ha.at (by omega)
    obtain ⟨b', o', rfl, hb1⟩ := hb.at (by omega)
    exact eq_true n ca cb b o b' o' g g' w hn ha1 hb1 he

set_option maxRecDepth 100000 in
set_option maxHeartbeats 800000 in
theorem copyB (n cap : Nat) (ao : Option Addr) (g : Nat → Int) (w : World) (hn : (n : Int) ≤ 140737488351232) (h0 : ao = none → n = 0 ∧ cap = 0) (ha : Bs w ao n g) :
    Calls Try.prog 16 #[.slice ao n cap] w fun e w' => ∃ v, e = .returned v ∧ OwnB w' w.heap.size v n g ∧ w.grownBy w' none := by
  obtain ⟨i, hi, hz0, hz1, hz2⟩ := info_parts info_u8
  cases ao with
  | none =>
    obtain ⟨rfl, rfl⟩ := h0 rfl
    go_enter Try.func16, Try.ntmps16
    go_wp2_with (at_builtin; refine wpList_append_own_none rfl _ _ 29 rfl w.heap.size 5 i 1 Try.underlying29 hi _ 0 [] rfl (World.ownsRow_nil _ _ _ _) rfl ?_)
    go_ret
    exact ⟨_, rfl, World.ownsRow_nil _ _ _ _, World.grownBy.refl _ _⟩
  | some ad =>
    have HC : Hid (∀ j u, (bytesL n g)[j]? = some u → w.cell? (ad.add j) = some u) := by
      intro j u hu
      obtain ⟨hj, rfl⟩ := bytesL_get hu
      obtain ⟨b, o, e, hc⟩ := ha.at (by omega)
      injection e with e
      subst e
      rw [add_none]
      exact hc j hj
    clear ha h0
    go_enter Try.func16, Try.ntmps16
    go_wp2_with (at_builtin; refine wpList_append_own _ rfl _ _ 29 rfl w.heap.size 5 i (.int .u8 0) 1 1 Try.underlying29 hi hz0 hz1 hz2 rfl (by decide) _ 0 [] rfl (World.ownsRow_nil _ _ _ _) ad n cap (bytesL n g) rfl (by rw [bytesL_len]; omega) HC.out (bytesL_one _ _) (by unfold maxLen; omega) (by omega) (Nat.le_refl _) ?_; intro v' w2 ho2 hg2 hv2; simp only [Nat.zero_add, List.nil_append] at ho2)
    go_ret
    exact ⟨_, rfl, ho2, hg2⟩

theorem OwnB.cellAt {w : World} {base n b cap : Nat} {g : Nat → Int} (h : OwnB w base (.slice (some ⟨b, 0, none⟩) n cap) n g) {k : Nat} (hk : k < n) : w.cell? ⟨b, k, none⟩ = some (.int .u8 (g k)) :=
  (World.ownsRow.cellAt h k (by omega)).trans (bytesL_at g hk)

end Go.Proofs.Ytljdjkiejppenaa
namespace Go.Proofs.Ytljdjkiejppenaa
set_option linter.unusedVariables false
namespace Cc
/-- what a code's bytes are: the page's letters -/
def row (op : Int) : List Int :=
  if op = 1 then [110, 105] else if op = 3 ∨ op = 26 ∨ op = 27 ∨ op = 28 then [97] else if op = 4 ∨ op = 7 ∨ op = 8 then [97, 75, 83] else if op = 5 then [110, 75, 83, 105]
  else if op = 6 then [97, 75, 83, 52] else if op = 10 then [97, 99, 52] else if op = 11 ∨ op = 13 then [97, 75, 52] else if op = 12 ∨ op = 14 then [97, 99, 75, 52]
  else if op = 15 ∨ op = 18 then [97, 83] else if op = 16 then [97, 75] else if op = 17 then [110, 75, 105] else if op = 19 then [106, 105] else if op = 22 then [74, 105]
  else if op = 23 ∨ op = 25 ∨ op = 29 then [52] else if op = 24 then [45] else []
/-- does a letter of a code's row use a field? -/
def useL (op l c : Int) : Bool :=
  if l = 97 then c == 65 || (c == 66 && op != 7 && op != 27 && op != 28 && op != 18) else if l = 110 then c == 65 else if l = 99 then c == 67 else if l = 75 then c == 75
  else if l = 83 ∨ l = 74 then c == 83 else if l = 105 ∨ l = 52 then c == 73 else false
def usesB (op c : Int) : Bool := (row op).any fun l => useL op l c
/-- may Imm be an operand of a kind's operation? -/
def immB (sub k n : Int) : Bool :=
  Wd.intB k && Wd.hasBinB sub k && sub != 4 && sub != 5 && Rc.smallB n && (Rc.s32 (Wd.canon (if Wd.shB sub then 9 else k) (n % 18446744073709551616)) == n)
def binB (v : InV) : Bool :=
  Wd.hasBinB v.sub v.k && (if Wd.shB v.sub then v.b == 1 && v.a != 1 else if Wd.intB v.k && (v.sub == 4 || v.sub == 5) then v.a == 0 && v.b != 0 && v.b != 2 else true)
def sclB (v : InV) : Bool := v.scale == 1 || v.scale == 2 || v.scale == 4 || v.scale == 8 || (v.scale == 0 && v.c == 0 && v.op == 10)
def kindB (v : InV) : Bool :=
  if v.op = 4 then binB v else if v.op = 5 then immB v.sub v.k v.imm else if v.op = 6 then Wd.hasBinB v.sub v.k && !Wd.shB v.sub && (!Wd.intB v.k || (v.sub != 4 && v.sub != 5))
  else if v.op = 7 then Wd.hasUnB v.sub v.k else if v.op = 8 then Wd.numB v.sub && Wd.numB v.k else if v.op = 10 then sclB v else if v.op = 12 ∨ v.op = 14 then sclB v && Wd.wordB v.k
  else if v.op = 11 ∨ v.op = 13 ∨ v.op = 16 then Wd.wordB v.k else if v.op = 17 then immB 2 v.k v.imm else if v.op = 15 ∨ v.op = 18 ∨ v.op = 22 then Wd.cmpB v.sub
  else if v.op = 25 then decide (0 ≤ v.imm) else if v.op = 29 then decide (0 < v.imm) else true
/-- is it an instruction of C64? -/
def mayB (v : InV) : Bool :=
  !(row v.op).isEmpty && v.label == 0 && Rc.regB v.a && Rc.regB v.b && Rc.regB v.c && (usesB v.op 65 || v.a == 0) && (usesB v.op 66 || v.b == 0) && (usesB v.op 67 || (v.c == 0 && v.scale == 0)) &&
  (usesB v.op 75 || v.k == 0) && (usesB v.op 83 || v.sub == 0) && (usesB v.op 73 || v.imm == 0) && (v.op == 1 || Rc.smallB v.imm) && kindB v

/-- the size of Imm, and how many bytes a size has -/
def size (n : Int) : Int := if -128 ≤ n ∧ n < 128 then 0 else if -2147483648 ≤ n ∧ n < 2147483648 then 1 else 2
def cnt (s : Int) : Nat := if s = 0 then 1 else if s = 1 then 4 else 8
def lg (s : Int) : Int := if s = 1 then 0 else if s = 2 then 1 else if s = 4 then 2 else if s = 8 then 3 else 15
def low (n : Int) (c : Nat) : List Int := (List.range c).map (Mm.by8 (n % 18446744073709551616))
/-- a letter's bytes -/
def letB (v : InV) (l : Int) : List Int :=
  if l = 97 then [(16 * v.a + v.b) % 256] else if l = 110 then [(16 * v.a + size v.imm) % 256] else if l = 106 then [size v.imm % 256] else if l = 74 then [(16 * (v.sub - 11) + size v.imm) % 256]
  else if l = 99 then [(16 * v.c + lg v.scale) % 256] else if l = 75 then [v.k % 256] else if l = 83 then [v.sub % 256] else if l = 105 then low v.imm (cnt (size v.imm)) else if l = 52 then low v.imm 4 else []
/-- its bytes -/
def enc (v : InV) : List Int := v.op % 256 :: (row v.op).flatMap (letB v)

/-- a signed number of c bytes -/
def num (g : Nat → Int) (at' c : Nat) : Int :=
  if c = 1 then (Mm.ld g at' 1 + 128) % 256 - 128 else if c = 4 then Rc.s32 (Mm.ld g at' 4) else Wd.sg (Mm.ld g at' 8)
def scl (n : Int) : Int := if n = 0 then 1 else if n = 1 then 2 else if n = 2 then 4 else if n = 3 then 8 else if n = 15 then 0 else -1
/-- how many bytes a letter takes -/
def lcnt (l s : Int) : Nat := if l = 105 then cnt s else if l = 52 then 4 else 1
/-- what a letter's bytes say of the instruction -/
def lset (l : Int) (v : InV) (x y : Int) : InV :=
  if l = 97 then { v with a := x / 16, b := x % 16 } else if l = 110 then { v with a := x / 16 } else if l = 106 then v else if l = 74 then { v with sub := x / 16 + 11 }
  else if l = 99 then { v with c := x / 16, scale := scl (x % 16) } else if l = 75 then { v with k := x } else if l = 83 then { v with sub := x } else { v with imm := y }
/-- .. and of the size -/
def lsz (l s x : Int) : Int := if l = 110 ∨ l = 74 then x % 16 else if l = 106 then x else s
/-- bytes read by a row: the instruction, and how many they are; 0: they end too early; -1: a size that is none -/
def rdL (N : Nat) (g : Nat → Int) : List Int → InV → Int → Nat → InV × Int
  | [], v, _, p => (v, p)
  | l :: s, v, z, p =>
    if N < p + lcnt l z then (v, 0)
    else if 2 < lsz l z (g p) ∨ (lsz l z (g p) = 2 ∧ v.op ≠ 1) then (lset l v (g p) (num g p (lcnt l z)), -1)
    else rdL N g s (lset l v (g p) (num g p (lcnt l z))) (lsz l z (g p)) (p + lcnt l z)
/-- the letters that are read -/
def rrow (op : Int) : List Int := if op = 24 then [] else row op
def read (N : Nat) (g : Nat → Int) : InV × Int := rdL N g (rrow (g 0)) ⟨g 0, 0, 0, 0, 0, 0, 0, 0, 0⟩ 0 1
def zero : InV := ⟨0, 0, 0, 0, 0, 0, 0, 0, 0⟩
/-- only the bytes that are read matter -/
theorem rd_congr {N : Nat} {g g' : Nat → Int} (h : ∀ i, i < N → g i = g' i) : ∀ (s : List Int) (v : InV) (z : Int) (p : Nat), rdL N g s v z p = rdL N g' s v z p := by
  intro s
  induction s with
  | nil => intro v z p; rfl
  | cons l s ih =>
    intro v z p
    unfold rdL
    by_cases h1 : N < p + lcnt l z
    · rw [if_pos h1, if_pos h1]
    · have hl : 1 ≤ lcnt l z := by unfold lcnt cnt; repeat' split
                                   all_goals omega
      have e1 : g p = g' p := h p (by omega)
      have e2 : num g p (lcnt l z) = num g' p (lcnt l z) := by
        have hc : ∀ c, c ≤ lcnt l z → Mm.ld g p c = Mm.ld g' p c := fun c hc => Mm.ld_congr fun i hi => h _ (by omega)
        unfold num
        by_cases c1 : lcnt l z = 1
        · rw [if_pos c1, if_pos c1, hc 1 (by omega)]
        · by_cases c4 : lcnt l z = 4
          · rw [if_neg c1, if_neg c1, if_pos c4, if_pos c4, hc 4 (by omega)]
          · have : lcnt l z = 8 := by
              revert c1 c4; unfold lcnt cnt; repeat' split
              all_goals omega
            rw [if_neg c1, if_neg c1, if_neg c4, if_neg c4, hc 8 (by omega)]
      rw [if_neg h1, if_neg h1, e1, e2, ih]

end Cc
end Go.Proofs.Ytljdjkiejppenaa
namespace Go.Proofs.Ytljdjkiejppenaa
open Go.RowKit
set_option linter.unusedVariables false
/-- a row of the call's own whose bytes are l -/
def OwnL (w : World) (base : Nat) (v : Value) (l : List Int) : Prop := w.ownsRow base 5 1 v l.length (l.map (Value.int .u8))

theorem bytesL_list (l : List Int) : bytesL l.length (fun i => l.getD i 0) = l.map (Value.int .u8) := by
  refine List.ext_getElem? fun i => ?_
  by_cases hi : i < l.length
  · rw [bytesL_at _ hi, List.getElem?_map, List.getElem?_eq_getElem hi]
    simp [List.getD_eq_getElem?_getD, List.getElem?_eq_getElem hi]
  · rw [List.getElem?_eq_none (by rw [bytesL_len]; omega), List.getElem?_eq_none (by rw [List.length_map]; omega)]
theorem OwnL.toB {w : World} {base : Nat} {v : Value} {l : List Int} (h : OwnL w base v l) : OwnB w base v l.length (fun i => l.getD i 0) := by
  unfold OwnB; rw [bytesL_list]; exact h
theorem OwnB.toL {w : World} {base n : Nat} {v : Value} {g : Nat → Int} (h : OwnB w base v n g) : OwnL w base v ((List.range n).map g) := by
  unfold OwnL
  rw [List.length_map, List.length_range, List.map_map]
  exact h
theorem OwnL.nil (w : World) (base : Nat) : OwnL w base (.slice none 0 0) [] := World.ownsRow_nil _ _ _ _
theorem OwnL.kept {w w' : World} {base : Nat} {v : Value} {l : List Int} {row : Option Nat} (h : OwnL w base v l) (hg : w.grownBy w' row) (hne : v.ownBlock = none ∨ v.ownBlock ≠ row) : OwnL w' base v l := World.ownsRow.kept h hg hne
theorem OwnL.low {w : World} {base base' : Nat} {v : Value} {l : List Int} (h : OwnL w base v l) (hb : base' ≤ base) : OwnL w base' v l := World.ownsRow.mono h hb
/-- behind an append -/
theorem OwnL.app {w : World} {base : Nat} {v : Value} {l m : List Int} (h : w.ownsRow base 5 1 v (l.length + m.length) (l.map (Value.int .u8) ++ m.map (Value.int .u8))) : OwnL w base v (l ++ m) := by
  unfold OwnL
  rw [List.length_append, List.map_append]
  exact h
theorem OwnL.one {w : World} {base : Nat} {v : Value} {l : List Int} {x : Int} (h : w.ownsRow base 5 1 v (l.length + 1) (l.map (Value.int .u8) ++ [.int .u8 x])) : OwnL w base v (l ++ [x]) := OwnL.app (m := [x]) h
/-- a literal row -/
theorem OwnL.lit (w : World) (base : Nat) (l : List Int) (hb : base ≤ w.heap.size) (hm : l.length ≤ maxLen) : OwnL (w.alloc (.cells (l.map (Value.int .u8)).toArray 5)) base (.slice (some ⟨w.heap.size, 0, none⟩) l.length l.length) l := by
  have := World.ownsRow_lit (base := base) (e := 5) (size := 1) w (l.map (Value.int .u8)).toArray l.length hb hm (by simp)
  simpa [OwnL] using this

namespace Cc
end Cc
/-- bytes that are left to be read -/
structure Lf (w : World) (a : Option Addr) (c : Nat) (L : List Int) : Prop where
  le : L.length ≤ c
  max : c ≤ maxLen
  nil : a = none → c = 0
  lie : ∀ g off s, a = some ⟨g, off, s⟩ → s = none ∧ g < w.heap.size ∧ ∀ (j : Nat) (z : Int), L[j]? = some z → w.cell? ⟨g, off + j, none⟩ = some (.int .u8 z)
/-- a reader, as it lies: what is left, how many nodes were begun, in how many it stands -/
def Rd (lim : Nat) (w : World) (B : Nat) (L : List Int) (n d : Nat) : Prop := ∃ a c, w.heap[B]? = some (.cells #[.slice a L.length c, .int .i64 n, .int .i64 d] 106) ∧ Lf w a c L ∧ ∀ g off s, a = some ⟨g, off, s⟩ → g ≠ B ∧ g < lim
theorem rcell {w : World} {B : Nat} {c : Array Value} {t : TypeId} {fr : Nat × Nat} (h : w.heap[B]? = some (.cells c t fr)) (i : Nat) : w.cell? ⟨B, i, none⟩ = c[i]? := by simp [World.cell?, h]
theorem rfrozen {w : World} {B : Nat} {c : Array Value} {t : TypeId} (h : w.heap[B]? = some (.cells c t)) (i : Nat) : w.frozen? ⟨B, i, none⟩ = false := by simp [World.frozen?, h]
theorem rset {w : World} {B : Nat} {c : Array Value} {t : TypeId} {fr : Nat × Nat} (h : w.heap[B]? = some (.cells c t fr)) (i : Nat) (v : Value) : (w.setCell ⟨B, i, none⟩ v).heap[B]? = some (.cells (c.setIfInBounds i v) t fr) := by
  simp [World.setCell, Array.getElem?_modify, h]
theorem Lf.kept {w w' : World} {a : Option Addr} {c : Nat} {L : List Int} (h : Lf w a c L) {row : Option Nat} (hg : w.grownBy w' row) (hne : ∀ g off s, a = some ⟨g, off, s⟩ → some g ≠ row) : Lf w' a c L :=
  ⟨h.le, h.max, h.nil, fun g off s e => by
    obtain ⟨h1, h2, h3⟩ := h.lie g off s e
    exact ⟨h1, Nat.lt_of_lt_of_le h2 hg.size, fun j z hj => hg.cell (h3 j z hj) (hne g off s e)⟩⟩
theorem Rd.kept {lim : Nat} {w w' : World} {B q : Nat} {L : List Int} {n d : Nat} (h : Rd lim w B L n d) (hg : w.grownBy w' (some q)) (h1 : lim ≤ q) (h2 : q ≠ B) : Rd lim w' B L n d := by
  obtain ⟨a, c, h3, h4, h5⟩ := h
  have hb : B < w.heap.size := (Array.getElem?_eq_some_iff.1 h3).1
  exact ⟨a, c, by rw [hg.block B hb (by simp; omega)]; exact h3, h4.kept hg (fun g off s e => by have := (h5 g off s e).2; simp; omega), h5⟩
theorem Rd.grow {lim : Nat} {w w' : World} {B : Nat} {L : List Int} {n d : Nat} (h : Rd lim w B L n d) (hg : w.grownBy w' none) : Rd lim w' B L n d := by
  obtain ⟨a, c, h1, h2, h3⟩ := h
  have hb : B < w.heap.size := (Array.getElem?_eq_some_iff.1 h1).1
  exact ⟨a, c, by rw [hg.block B hb (by simp)]; exact h1, h2.kept hg (by simp), h3⟩
set_option maxRecDepth 100000 in
set_option maxHeartbeats 4000000 in
theorem next_ok {lim : Nat} {w : World} {B : Nat} {z : Int} {R : List Int} {n d : Nat} (h : Rd lim w B (z :: R) n d) :
    Calls Try.prog 108 #[.pointer (some ⟨B, 0, none⟩)] w fun e w' => e = .returned (.int .u8 z) ∧ Rd lim w' B R n d ∧ w.grownBy w' (some B) := by
  obtain ⟨a, c, h1, h2, h3⟩ := h
  obtain ⟨g, off, s, rfl⟩ : ∃ g off s, a = some ⟨g, off, s⟩ := by
    cases a with
    | none => have := h2.nil rfl; have := h2.le; simp at this; omega
    | some x => exact ⟨x.block, x.off, x.spot, rfl⟩
  obtain ⟨rfl, hgs, hcell⟩ := h2.lie g off s rfl
  obtain ⟨hgB, hgl⟩ := h3 g off none rfl
  have c0 : w.cell? ⟨B, 0, none⟩ = some (.slice (some ⟨g, off, none⟩) (R.length + 1) c) := rcell h1 0
  have f0 : w.frozen? ⟨B, 0, none⟩ = false := rfrozen h1 0
  have cz : w.cell? ⟨g, off, none⟩ = some (.int .u8 z) := hcell 0 z rfl
  have hle : R.length + 1 ≤ c := by have := h2.le; simpa using this
  have hmx : c ≤ 9223372036854775807 := h2.max
  have HR : Hid (∀ a' : Option Addr, (a' = some ⟨g, off, none⟩ ∧ c = 1) ∨ (a' = some ⟨g, off + 1, none⟩) → Rd lim (w.setCell ⟨B, 0, none⟩ (.slice a' R.length (c - 1))) B R n d ∧ w.grownBy (w.setCell ⟨B, 0, none⟩ (.slice a' R.length (c - 1))) (some B)) := by
    intro a' ha
    have hg := grown_setCell w B 0 (.slice a' R.length (c - 1))
    refine ⟨⟨a', c - 1, by rw [rset h1 0]; rfl, ?_, ?_⟩, hg⟩
    · refine Lf.kept (w := w) ⟨by omega, by have := h2.max; omega, fun e => ?_, fun g' off' s' e => ?_⟩ hg ?_
      · rcases ha with ⟨rfl, _⟩ | rfl <;> cases e
      · rcases ha with ⟨rfl, hc⟩ | rfl
        · have hR : R = [] := List.length_eq_zero_iff.1 (by omega)
          injection e with e; injection e with e1 e2 e3
          subst e1; subst e2; subst e3
          exact ⟨rfl, hgs, fun j y hj => by rw [hR] at hj; simp at hj⟩
        · injection e with e; injection e with e1 e2 e3
          subst e1; subst e2; subst e3
          refine ⟨rfl, hgs, fun j y hj => ?_⟩
          have := hcell (j + 1) y (by simpa using hj)
          rw [show off + 1 + j = off + (j + 1) by omega]
          exact this
      · intro g' off' s' e
        rcases ha with ⟨rfl, _⟩ | rfl
        · injection e with e; injection e with e1 e2 e3
          subst e1
          simpa using hgB
        · injection e with e; injection e with e1 e2 e3
          subst e1
          simpa using hgB
    · intro g' off' s' e
      rcases ha with ⟨rfl, _⟩ | rfl
      · injection e with e; injection e with e1 e2 e3
        subst e1
        exact ⟨hgB, hgl⟩
      · injection e with e; injection e with e1 e2 e3
        subst e1
        exact ⟨hgB, hgl⟩
  clear h1 h2 h3 hcell
  by_cases hc1 : c = 1
  · subst hc1
    obtain rfl : R = [] := List.length_eq_zero_iff.1 (by omega)
    simp only [List.length_nil, Nat.zero_add] at c0
    go_enter Try.func108, Try.ntmps108
    go_wp2
    go_ret
    exact ⟨rfl, HR.out (some ⟨g, off, none⟩) (.inl (by simp))⟩
  · go_enter Try.func108, Try.ntmps108
    go_wp2
    go_ret
    exact ⟨rfl, HR.out _ (.inr rfl)⟩
set_option maxRecDepth 100000 in
set_option maxHeartbeats 4000000 in
theorem groups_one {lim : Nat} {w : World} {B : Nat} {z : Int} {R : List Int} {n d : Nat} (h : Rd lim w B (z :: R) n d) (h0 : 0 ≤ z) (h1 : z < 128) {most last : Int} (hm : 2 ≤ most ∧ most ≤ 10) :
    Calls Try.prog 100 #[.pointer (some ⟨B, 0, none⟩), .int .i64 most, .int .u8 last] w fun e w' => e = .returned (.int .u64 z) ∧ Rd lim w' B R n d ∧ w.grownBy w' (some B) := by
  have HC : Hid (Calls Try.prog 108 #[.pointer (some ⟨B, 0, none⟩)] w fun e w' => e = .returned (.int .u8 z) ∧ Rd lim w' B R n d ∧ w.grownBy w' (some B)) := next_ok h
  have q1 : ((0 : Int) == most - 1) = false := by simp; omega
  have q2 : z % 128 = z := by omega
  have HB : Hid (bits .or .u64 0 z = z) := by
    show _ = z
    rw [u64_or _ _ (by omega) (by omega) h0 (by omega)]
    simp
    omega
  obtain ⟨hm1, hm2⟩ := hm
  clear h
  go_enter Try.func100, Try.ntmps100
  go_wp2_with fail
  refine wp_loop_once ?_
  go_wp2_with (go_at_call 108; refine HC.out.mono ?_; rintro e w4 ⟨rfl, h4⟩; have H4 : Hid (Rd lim w4 B R n d ∧ w.grownBy w4 (some B)) := h4; clear h4 HC)
  go_ret
  refine ⟨?_, H4.out⟩
  show Ending.returned (Value.int .u64 (bits .or .u64 0 z)) = _
  rw [HB.out]
set_option maxRecDepth 100000 in
set_option maxHeartbeats 4000000 in
theorem count_one {lim : Nat} {w : World} {B : Nat} {z : Int} {R : List Int} {n d : Nat} (h : Rd lim w B (z :: R) n d) (h0 : 0 ≤ z) (h1 : z < 128) :
    Calls Try.prog 92 #[.pointer (some ⟨B, 0, none⟩)] w fun e w' => e = .returned (.int .i64 z) ∧ Rd lim w' B R n d ∧ w.grownBy w' (some B) := by
  have HC : Hid (Calls Try.prog 100 #[.pointer (some ⟨B, 0, none⟩), .int .i64 5, .int .u8 7] w fun e w' => e = .returned (.int .u64 z) ∧ Rd lim w' B R n d ∧ w.grownBy w' (some B)) := groups_one h h0 h1 (by decide)
  clear h
  go_enter Try.func92, Try.ntmps92
  go_wp2_with (go_at_call 100; refine HC.out.mono ?_; rintro e w4 ⟨rfl, h4⟩; have H4 : Hid (Rd lim w4 B R n d ∧ w.grownBy w4 (some B)) := h4; clear h4 HC)
  go_ret
  exact ⟨rfl, H4.out⟩
set_option maxRecDepth 100000 in
set_option maxHeartbeats 4000000 in
theorem length_nought {lim : Nat} {w : World} {B : Nat} {R : List Int} {n d : Nat} (h : Rd lim w B (0 :: R) n d) :
    Calls Try.prog 91 #[.pointer (some ⟨B, 0, none⟩)] w fun e w' => e = .returned (.int .i64 0) ∧ Rd lim w' B R n d ∧ w.grownBy w' (some B) := by
  have HC : Hid (Calls Try.prog 92 #[.pointer (some ⟨B, 0, none⟩)] w fun e w' => e = .returned (.int .i64 0) ∧ Rd lim w' B R n d ∧ w.grownBy w' (some B)) := count_one h (by decide) (by decide)
  clear h
  go_enter Try.func91, Try.ntmps91
  go_wp2_with (go_at_call 92; refine HC.out.mono ?_; rintro e w4 ⟨rfl, h4⟩; have H4 : Hid (Rd lim w4 B R n d ∧ w.grownBy w4 (some B)) := h4; obtain ⟨a, c, h1, h2, h3⟩ := h4.1; have c0 : w4.cell? ⟨B, 0, none⟩ = some (.slice a R.length c) := rcell h1 0; have hz : ¬ ((R.length : Int) < 0) := (by omega); have hz' : decide ((R.length : Int) < 0) = false := decide_eq_false hz; clear h4 HC h1 h2 h3)
  go_ret
  exact ⟨rfl, H4.out⟩
set_option maxRecDepth 100000 in
theorem tlist_nought {lim : Nat} {w : World} {B : Nat} {R : List Int} {n d : Nat} (h : Rd lim w B (0 :: R) n d) {k : Nat} {fs : Array Value} :
    Calls Try.prog 77 #[.pointer (some ⟨B, 0, none⟩), .func (.func k) fs #[]] w fun e w' => e = .returned (.slice none 0 0) ∧ Rd lim w' B R n d ∧ w.grownBy w' (some B) := by
  have HC : Hid (Calls Try.prog 91 #[.pointer (some ⟨B, 0, none⟩)] w fun e w' => e = .returned (.int .i64 0) ∧ Rd lim w' B R n d ∧ w.grownBy w' (some B)) := length_nought h
  clear h
  go_enter Try.func77, Try.ntmps77
  go_wp2_with (go_at_call 91; refine HC.out.mono ?_; rintro e w4 ⟨rfl, h4⟩; have H4 : Hid (Rd lim w4 B R n d ∧ w.grownBy w4 (some B)) := h4; clear h4 HC)
  refine wp_loop_once ?_
  go_wp2
  go_ret
  exact ⟨rfl, H4.out⟩
set_option maxRecDepth 100000 in
theorem flist_nought {lim : Nat} {w : World} {B : Nat} {R : List Int} {n d : Nat} (h : Rd lim w B (0 :: R) n d) {k : Nat} {fs : Array Value} :
    Calls Try.prog 79 #[.pointer (some ⟨B, 0, none⟩), .func (.func k) fs #[]] w fun e w' => e = .returned (.slice none 0 0) ∧ Rd lim w' B R n d ∧ w.grownBy w' (some B) := by
  have HC : Hid (Calls Try.prog 91 #[.pointer (some ⟨B, 0, none⟩)] w fun e w' => e = .returned (.int .i64 0) ∧ Rd lim w' B R n d ∧ w.grownBy w' (some B)) := length_nought h
  clear h
  go_enter Try.func79, Try.ntmps79
  go_wp2_with (go_at_call 91; refine HC.out.mono ?_; rintro e w4 ⟨rfl, h4⟩; have H4 : Hid (Rd lim w4 B R n d ∧ w.grownBy w4 (some B)) := h4; clear h4 HC)
  refine wp_loop_once ?_
  go_wp2
  go_ret
  exact ⟨rfl, H4.out⟩
set_option maxRecDepth 100000 in
set_option maxHeartbeats 4000000 in
theorem program_nought {lim : Nat} {w : World} {B : Nat} {R : List Int} {n d : Nat} (h : Rd lim w B (0 :: 0 :: R) n d) (hlim : lim ≤ w.heap.size) :
    Calls Try.prog 60 #[.pointer (some ⟨B, 0, none⟩)] w fun e w' => e = .returned (.agg #[.slice none 0 0, .slice none 0 0]) ∧ Rd lim w' B R n d ∧ w.grownBy w' (some B) := by
  have hbs : B < w.heap.size := by obtain ⟨a, c, h1, _⟩ := h; exact (Array.getElem?_eq_some_iff.1 h1).1
  obtain ⟨W1, hW1⟩ : ∃ W1, W1 = w.alloc (.cells #[.slice none 0 0, .slice none 0 0] 27) := ⟨_, rfl⟩
  have HW1 : Hid (W1 = w.alloc (.cells #[.slice none 0 0, .slice none 0 0] 27)) := hW1
  have g1 : w.grownBy W1 none := by rw [hW1]; exact World.grownBy_alloc _ _ _
  have HG1 : Hid (w.grownBy W1 none) := g1
  have HP : Hid (W1.heap[w.heap.size]? = some (.cells #[.slice none 0 0, .slice none 0 0] 27)) := by show _ = _; rw [hW1]; exact heap_alloc_new w _
  have HC := fun (k : Nat) (fs : Array Value) => tlist_nought (k := k) (fs := fs) (h.grow g1)
  clear h g1 hW1
  go_enter Try.func60, Try.ntmps60
  go_wp2_with (first
    | (go_at_call 77; rw [← HW1.out]; refine (HC _ _).mono ?_; rintro e w4 ⟨rfl, h4, g4⟩; have P4 : Hid (w4.heap[w.heap.size]? = some (.cells #[.slice none 0 0, .slice none 0 0] 27)) := (by show _ = _; rw [g4.block _ (Array.getElem?_eq_some_iff.1 HP.out).1 (by simp; omega)]; exact HP.out); have d0 : w4.cell? ⟨w.heap.size, 0, none⟩ = some (.slice none 0 0) := rcell P4.out 0; have f0 : w4.frozen? ⟨w.heap.size, 0, none⟩ = false := rfrozen P4.out 0; have G4 : Hid (Ch w w4 [B]) := ((Ch.of HG1.out).trans (Ch.one g4 (by simp))); have HC2 := (fun (k : Nat) (fs : Array Value) => flist_nought (k := k) (fs := fs) (h4.kept (grown_setCell w4 w.heap.size 0 (.slice none 0 0)) hlim (by omega))); have P5 : Hid ((w4.setCell ⟨w.heap.size, 0, none⟩ (.slice none 0 0)).heap[w.heap.size]? = some (.cells #[.slice none 0 0, .slice none 0 0] 27)) := rset P4.out 0 (.slice none 0 0); clear h4 g4 HC)
    | (go_at_call 79; refine (HC2 _ _).mono ?_; rintro e w5 ⟨rfl, h5, g5⟩; have P6 : Hid (w5.heap[w.heap.size]? = some (.cells #[.slice none 0 0, .slice none 0 0] 27)) := (by show _ = _; rw [g5.block _ (Array.getElem?_eq_some_iff.1 P5.out).1 (by simp; omega)]; exact P5.out); have e0 : w5.cell? ⟨w.heap.size, 0, none⟩ = some (.slice none 0 0) := rcell P6.out 0; have e1 : w5.cell? ⟨w.heap.size, 1, none⟩ = some (.slice none 0 0) := rcell P6.out 1; have k0 : w5.frozen? ⟨w.heap.size, 0, none⟩ = false := rfrozen P6.out 0; have k1 : w5.frozen? ⟨w.heap.size, 1, none⟩ = false := rfrozen P6.out 1; have R5 : Hid (Rd lim w5 B R n d) := h5; have G5 : Hid (Ch w w5 [B]) := (Ch.trans (G4.out.new (Nat.le_refl _) (grown_setCell w4 w.heap.size 0 (.slice none 0 0))) (Ch.one g5 (by simp))); clear h5 g5 HC2))
  have P7 := rset (rset (rset P6.out 1 (.slice none 0 0)) 0 (.slice none 0 0)) 1 (.slice none 0 0)
  have G7 := (((G5.out.new (Nat.le_refl _) (grown_setCell w5 w.heap.size 1 (.slice none 0 0))).new (Nat.le_refl _) (grown_setCell _ w.heap.size 0 (.slice none 0 0))).new (Nat.le_refl _) (grown_setCell _ w.heap.size 1 (.slice none 0 0)))
  have R7 := ((R5.out.kept (grown_setCell w5 w.heap.size 1 (.slice none 0 0)) hlim (by omega)).kept (grown_setCell _ w.heap.size 0 (.slice none 0 0)) hlim (by omega)).kept (grown_setCell _ w.heap.size 1 (.slice none 0 0)) hlim (by omega)
  clear e0 e1 k0 k1 d0 f0 P6 P5 P4 R5 G5 G4
  generalize (((w5.setCell ⟨w.heap.size, 1, none⟩ (.slice none 0 0)).setCell ⟨w.heap.size, 0, none⟩ (.slice none 0 0)).setCell ⟨w.heap.size, 1, none⟩ (.slice none 0 0)) = W9 at *
  have r0 : W9.cell? ⟨w.heap.size, 0, none⟩ = some (.slice none 0 0) := rcell P7 0
  have r1 : W9.cell? ⟨w.heap.size, 1, none⟩ = some (.slice none 0 0) := rcell P7 1
  refine bodyPost_ret (by simp [results, Try.results60, go_sem, r0, r1]; try rfl) rfl ?_
  exact ⟨rfl, R7, ⟨G7.os, G7.tape, G7.output, G7.size, fun k hk hne => G7.block k hk (by simpa using hne)⟩⟩
theorem assert_fault (x : Int) (w : World) : (Instr.typeAssert (.iface 102 (.agg #[.int .i64 x])) 20 102 true).run Try.prog w = .ok (.tuple #[.agg #[.int .i64 x], .bool true]) w := by kernel_rfl
set_option maxRecDepth 100000 in
set_option maxHeartbeats 4000000 in
theorem fault_caught (PB EB : Nat) (x : Int) (v0 v1 z : Value) (older : List PanicEntry) (w : World) (hp : w.heap[PB]? = some (.cells #[v0, v1] 27)) (he : w.heap[EB]? = some (.cells #[z] 30)) (hne : PB ≠ EB) :
    CallsD Try.prog 59 #[.pointer (some ⟨PB, 0, none⟩), .pointer (some ⟨EB, 0, none⟩)] (.panicking ({ v := .iface 102 (.agg #[.int .i64 x]), recovered := false } :: older)) w fun e u' w' => e = .returned (.tuple #[]) ∧ u' = .panicking ({ v := .iface 102 (.agg #[.int .i64 x]), recovered := true } :: older) ∧ w'.heap[PB]? = some (.cells #[.slice none 0 0, .slice none 0 0] 27) ∧ w'.heap[EB]? = some (.cells #[.int .i64 x] 30) ∧ Ch w w' [PB, EB] := by
  refine callsD_of_wpS Try.func59 rfl fun c₀ cs hu => ?_
  apply wpS_seq
  apply wpS_region
  simp [wpOpsS, go_sem, recoverD, hu, Try.ntmps59, Exit.thenS]
  refine wpS_of_wp ?_
  have ht : #[Value.pointer (some ⟨PB, 0, none⟩), Value.pointer (some ⟨EB, 0, none⟩)] ++
          ((Array.replicate 17 undef).setIfInBounds 3 (Value.iface 102 (Value.agg #[Value.int IntKind.i64 x]))).setIfInBounds 0 (Value.iface 102 (Value.agg #[Value.int IntKind.i64 x]))
      = #[.pointer (some ⟨PB, 0, none⟩), .pointer (some ⟨EB, 0, none⟩), .iface 102 (.agg #[.int .i64 x]), undef, undef, .iface 102 (.agg #[.int .i64 x]), undef, undef, undef, undef, undef, undef, undef, undef, undef, undef, undef, undef, undef] := by kernel_rfl
  rw [ht]
  clear ht
  have ha := assert_fault x
  have hpl : PB < w.heap.size := (Array.getElem?_eq_some_iff.1 hp).1
  have hel : EB < w.heap.size := (Array.getElem?_eq_some_iff.1 he).1
  have HP : Hid (w.heap[PB]? = some (.cells #[v0, v1] 27)) := hp
  have HE : Hid (w.heap[EB]? = some (.cells #[z] 30)) := he
  clear hp he
  go_wp2_with fail
  obtain ⟨W1, hW1⟩ : ∃ W1, W1 = w.alloc (.cells #[.int .i64 x] 102) := ⟨_, rfl⟩
  rw [← hW1]
  have g1 : w.grownBy W1 none := by rw [hW1]; exact World.grownBy_alloc _ _ _
  have p1 : W1.heap[PB]? = some (.cells #[v0, v1] 27) := by rw [g1.block PB hpl (by simp)]; exact HP.out
  have e1 : W1.heap[EB]? = some (.cells #[z] 30) := by rw [g1.block EB hel (by simp)]; exact HE.out
  have q1 : W1.heap[w.heap.size]? = some (.cells #[.int .i64 x] 102) := by rw [hW1]; exact heap_alloc_new w _
  have HG : Hid (w.grownBy W1 none) := g1
  have HP1 : Hid (W1.heap[PB]? = some (.cells #[v0, v1] 27)) := p1
  have HE1 : Hid (W1.heap[EB]? = some (.cells #[z] 30)) := e1
  have c0 : W1.cell? ⟨PB, 0, none⟩ = some v0 := rcell p1 0
  have c1 : W1.cell? ⟨PB, 1, none⟩ = some v1 := rcell p1 1
  have c2 : W1.cell? ⟨EB, 0, none⟩ = some z := rcell e1 0
  have c3 : W1.cell? ⟨w.heap.size, 0, none⟩ = some (.int .i64 x) := rcell q1 0
  have f0 : W1.frozen? ⟨PB, 0, none⟩ = false := rfrozen p1 0
  have f1 : W1.frozen? ⟨PB, 1, none⟩ = false := rfrozen p1 1
  have f2 : W1.frozen? ⟨EB, 0, none⟩ = false := rfrozen e1 0
  have n1 : PB ≠ w.heap.size := by omega
  have n2 : EB ≠ w.heap.size := by omega
  clear hW1 g1 p1 e1 q1 HP HE ha
  generalize w.heap.size = FB at *
  go_region
  have P2 := rset (rset HP1.out 0 (.slice none 0 0)) 1 (.slice none 0 0)
  have E2 : ((W1.setCell ⟨PB, 0, none⟩ (.slice none 0 0)).setCell ⟨PB, 1, none⟩ (.slice none 0 0)).heap[EB]? = some (.cells #[z] 30) := by
    rw [(grown_setCell _ PB 1 (.slice none 0 0)).block EB (by simp; exact (Array.getElem?_eq_some_iff.1 HE1.out).1) (by simp; omega), (grown_setCell W1 PB 0 (.slice none 0 0)).block EB (Array.getElem?_eq_some_iff.1 HE1.out).1 (by simp; omega)]
    exact HE1.out
  have E3 := rset E2 0 (.int .i64 x)
  have P3 : (((W1.setCell ⟨PB, 0, none⟩ (.slice none 0 0)).setCell ⟨PB, 1, none⟩ (.slice none 0 0)).setCell ⟨EB, 0, none⟩ (.int .i64 x)).heap[PB]? = some (.cells #[.slice none 0 0, .slice none 0 0] 27) := by
    rw [(grown_setCell _ EB 0 (.int .i64 x)).block PB (Array.getElem?_eq_some_iff.1 P2).1 (by simp; omega)]
    exact P2
  have G3 : Ch w (((W1.setCell ⟨PB, 0, none⟩ (.slice none 0 0)).setCell ⟨PB, 1, none⟩ (.slice none 0 0)).setCell ⟨EB, 0, none⟩ (.int .i64 x)).drew [PB, EB] := ((((Ch.of HG.out).trans (Ch.one (grown_setCell W1 PB 0 (.slice none 0 0)) (by simp))).trans (Ch.one (grown_setCell _ PB 1 (.slice none 0 0)) (by simp))).trans (Ch.one (grown_setCell _ EB 0 (.int .i64 x)) (by simp))).trans (Ch.of (grown_drew (World.grownBy.refl _ none)))
  clear c0 c1 c2 c3 f0 f1 f2 HP1 HE1 HG P2 E2
  generalize (((W1.setCell ⟨PB, 0, none⟩ (.slice none 0 0)).setCell ⟨PB, 1, none⟩ (.slice none 0 0)).setCell ⟨EB, 0, none⟩ (.int .i64 x)) = W9 at *
  change bodyPostS _ _ _ _ _ _ _ _ W9.drew
  simp [bodyPostS, results, Try.results59]
  exact ⟨P3, E3, G3⟩
/-- where raw.read begins -/
def rdW8 (w : World) (v : Value) : World := ((w.alloc (.cells #[.slice none 0 0, .slice none 0 0] 27)).alloc (.cells #[.int .i64 0] 30)).alloc (.cells #[v, .int .i64 0, .int .i64 0] 106)
theorem rdW8_ok (w : World) (a : Option Addr) (c : Nat) (L : List Int) (h : Lf w a c L) : Rd w.heap.size (rdW8 w (.slice a L.length c)) (w.heap.size + 1 + 1) L 0 0 ∧ (rdW8 w (.slice a L.length c)).heap[w.heap.size]? = some (.cells #[.slice none 0 0, .slice none 0 0] 27) ∧ (rdW8 w (.slice a L.length c)).heap[w.heap.size + 1]? = some (.cells #[.int .i64 0] 30) ∧ w.grownBy (rdW8 w (.slice a L.length c)) none := by
  have g1 := World.grownBy_alloc w (.cells #[.slice none 0 0, .slice none 0 0] 27) none
  have g2 := World.grownBy_alloc (w.alloc (.cells #[.slice none 0 0, .slice none 0 0] 27)) (.cells #[.int .i64 0] 30) none
  have g3 := World.grownBy_alloc ((w.alloc (.cells #[.slice none 0 0, .slice none 0 0] 27)).alloc (.cells #[.int .i64 0] 30)) (.cells #[.slice a L.length c, .int .i64 0, .int .i64 0] 106) none
  have gg : w.grownBy (rdW8 w (.slice a L.length c)) none := grown_trans g1 (grown_trans g2 g3)
  have h1 : (w.alloc (.cells #[.slice none 0 0, .slice none 0 0] 27)).heap[w.heap.size]? = some (.cells #[.slice none 0 0, .slice none 0 0] 27) := heap_alloc_new w _
  have h2 : ((w.alloc (.cells #[.slice none 0 0, .slice none 0 0] 27)).alloc (.cells #[.int .i64 0] 30)).heap[w.heap.size + 1]? = some (.cells #[.int .i64 0] 30) := by
    have := heap_alloc_new (w.alloc (.cells #[.slice none 0 0, .slice none 0 0] 27)) (.cells #[.int .i64 0] 30)
    simpa using this
  have h3 : (rdW8 w (.slice a L.length c)).heap[w.heap.size + 1 + 1]? = some (.cells #[.slice a L.length c, .int .i64 0, .int .i64 0] 106) := by
    have := heap_alloc_new ((w.alloc (.cells #[.slice none 0 0, .slice none 0 0] 27)).alloc (.cells #[.int .i64 0] 30)) (.cells #[.slice a L.length c, .int .i64 0, .int .i64 0] 106)
    simpa [rdW8] using this
  refine ⟨⟨a, c, h3, h.kept gg (by simp), fun g off s e => ?_⟩, ?_, ?_, gg⟩
  · have := (h.lie g off s e).2.1
    exact ⟨by omega, this⟩
  · have := (grown_trans g2 g3).block w.heap.size (Array.getElem?_eq_some_iff.1 h1).1 (by simp)
    exact this.trans h1
  · exact (g3.block _ (Array.getElem?_eq_some_iff.1 h2).1 (by simp)).trans h2
set_option maxRecDepth 100000 in
set_option maxHeartbeats 4000000 in
theorem read_more {w : World} {a : Option Addr} {c : Nat} {L R : List Int} {v0 v1 : Value} {n d : Nat} (h : Lf w a c L) (hR : R ≠ []) (hs0 : ∃ a c n, v0 = .slice a n c) (hs1 : ∃ a c n, v1 = .slice a n c)
    (hP : Calls Try.prog 60 #[.pointer (some ⟨w.heap.size + 1 + 1, 0, none⟩)] (rdW8 w (.slice a L.length c)) fun e w' => e = .returned (.agg #[v0, v1]) ∧ Rd w.heap.size w' (w.heap.size + 1 + 1) R n d ∧ (rdW8 w (.slice a L.length c)).grownBy w' (some (w.heap.size + 1 + 1))) :
    Calls Try.prog 33 #[.slice a L.length c] w fun e w' => e = .returned (.tuple #[.agg #[.slice none 0 0, .slice none 0 0], .int .i64 84]) ∧ w.grownBy w' none := by
  obtain ⟨a0, c0, n0, rfl⟩ := hs0
  obtain ⟨a1, c1, n1, rfl⟩ := hs1
  have hmf : ∀ (fn : Fn) (first cap : Array Value) (w : World), (Instr.makeFunc fn first cap).run Try.prog w = .ok (.func fn first cap) w := fun _ _ _ _ => rfl
  obtain ⟨q1, q2, q3, q4⟩ := rdW8_ok w a c L h
  have HP : Hid (Calls Try.prog 60 #[.pointer (some ⟨w.heap.size + 1 + 1, 0, none⟩)] (rdW8 w (.slice a L.length c)) fun e w' => e = .returned (.agg #[.slice a0 n0 c0, .slice a1 n1 c1]) ∧ Rd w.heap.size w' (w.heap.size + 1 + 1) R n d ∧ (rdW8 w (.slice a L.length c)).grownBy w' (some (w.heap.size + 1 + 1))) := hP
  have Q2 : Hid ((rdW8 w (.slice a L.length c)).heap[w.heap.size]? = some (.cells #[.slice none 0 0, .slice none 0 0] 27)) := q2
  have Q3 : Hid ((rdW8 w (.slice a L.length c)).heap[w.heap.size + 1]? = some (.cells #[.int .i64 0] 30)) := q3
  have Q4 : Hid (w.grownBy (rdW8 w (.slice a L.length c)) none) := q4
  have hrl : 0 < R.length := List.length_pos_iff.2 hR
  have hz : 0 < (R.length : Int) := by omega
  have hz' : decide (0 < (R.length : Int)) = true := decide_eq_true hz
  clear hP q1 q2 q3 q4 h hR
  go_enter_defers Try.func33, Try.ntmps33
  go_wp2_with fail
  refine Calls.mono HP.out ?_
  rintro e w1 ⟨rfl, h1, g1⟩
  have P1 : w1.heap[w.heap.size]? = some (.cells #[.slice none 0 0, .slice none 0 0] 27) := (g1.block _ (Array.getElem?_eq_some_iff.1 Q2.out).1 (by simp; omega)).trans Q2.out
  have E1 : w1.heap[w.heap.size + 1]? = some (.cells #[.int .i64 0] 30) := (g1.block _ (Array.getElem?_eq_some_iff.1 Q3.out).1 (by simp)).trans Q3.out
  have G1 : Ch w w1 [] := Ch.new (Ch.of Q4.out) (by omega) g1
  have m0 : w1.cell? ⟨w.heap.size, 0, none⟩ = some (.slice none 0 0) := rcell P1 0
  have m1 : w1.cell? ⟨w.heap.size, 1, none⟩ = some (.slice none 0 0) := rcell P1 1
  have k0 : w1.frozen? ⟨w.heap.size, 0, none⟩ = false := rfrozen P1 0
  have k1 : w1.frozen? ⟨w.heap.size, 1, none⟩ = false := rfrozen P1 1
  have P2 := rset (rset P1 0 (.slice a0 n0 c0)) 1 (.slice a1 n1 c1)
  have E2 : ((w1.setCell ⟨w.heap.size, 0, none⟩ (.slice a0 n0 c0)).setCell ⟨w.heap.size, 1, none⟩ (.slice a1 n1 c1)).heap[w.heap.size + 1]? = some (.cells #[.int .i64 0] 30) := by
    rw [(grown_setCell _ w.heap.size 1 (.slice a1 n1 c1)).block _ (by simp; exact (Array.getElem?_eq_some_iff.1 E1).1) (by simp), (grown_setCell w1 w.heap.size 0 (.slice a0 n0 c0)).block _ (Array.getElem?_eq_some_iff.1 E1).1 (by simp)]
    exact E1
  have h2 := (h1.kept (grown_setCell w1 w.heap.size 0 (.slice a0 n0 c0)) (Nat.le_refl _) (by omega)).kept (grown_setCell _ w.heap.size 1 (.slice a1 n1 c1)) (Nat.le_refl _) (by omega)
  have G2 := (G1.new (Nat.le_refl _) (grown_setCell w1 w.heap.size 0 (.slice a0 n0 c0))).new (Nat.le_refl _) (grown_setCell _ w.heap.size 1 (.slice a1 n1 c1))
  have HH : Hid (((w1.setCell ⟨w.heap.size, 0, none⟩ (.slice a0 n0 c0)).setCell ⟨w.heap.size, 1, none⟩ (.slice a1 n1 c1)).heap[w.heap.size]? = some (.cells #[.slice a0 n0 c0, .slice a1 n1 c1] 27) ∧ ((w1.setCell ⟨w.heap.size, 0, none⟩ (.slice a0 n0 c0)).setCell ⟨w.heap.size, 1, none⟩ (.slice a1 n1 c1)).heap[w.heap.size + 1]? = some (.cells #[.int .i64 0] 30) ∧ Ch w ((w1.setCell ⟨w.heap.size, 0, none⟩ (.slice a0 n0 c0)).setCell ⟨w.heap.size, 1, none⟩ (.slice a1 n1 c1)) []) := ⟨P2, E2, G2⟩
  obtain ⟨b, k, h3, h4, h5⟩ := h2
  have r0 : ((w1.setCell ⟨w.heap.size, 0, none⟩ (.slice a0 n0 c0)).setCell ⟨w.heap.size, 1, none⟩ (.slice a1 n1 c1)).cell? ⟨w.heap.size + 1 + 1, 0, none⟩ = some (.slice b R.length k) := rcell h3 0
  clear h1 g1 P1 E1 G1 P2 E2 G2 h3 h4 h5 HP
  go_wp2
  refine leaves_cons (f := 59) (args := #[.pointer (some ⟨w.heap.size, 0, none⟩), .pointer (some ⟨w.heap.size + 1, 0, none⟩)]) (by simp) (by simp [go_sem]) ?_
  obtain ⟨P2, E2, G2⟩ := HH.out
  refine (fault_caught w.heap.size (w.heap.size + 1) 84 _ _ _ [] _ P2 E2 (by omega)).mono ?_
  rintro e u' w3 ⟨rfl, rfl, P3, E3, G3⟩
  have x0 : w3.cell? ⟨w.heap.size, 0, none⟩ = some (.slice none 0 0) := rcell P3 0
  have x1 : w3.cell? ⟨w.heap.size, 1, none⟩ = some (.slice none 0 0) := rcell P3 1
  have x2 : w3.cell? ⟨w.heap.size + 1, 0, none⟩ = some (.int .i64 84) := rcell E3 0
  have GG : w.grownBy w3 none := ((G2.mono (l' := [w.heap.size, w.heap.size + 1]) (by simp)).trans G3).nil (by simp)
  clear HH P2 E2 G2 P3 E3 G3 m0 m1 k0 k1 r0
  simp [Leaves, settle, results, Try.results33, go_sem, x0, x1, x2, GG]
set_option maxRecDepth 100000 in
set_option maxHeartbeats 4000000 in
theorem decode_of {w : World} {v : Value} {u0 u1 : Value} {E : Int} (hs0 : ∃ a c n, u0 = .slice a n c) (hs1 : ∃ a c n, u1 = .slice a n c)
    (h : ∀ W, w.grownBy W none → Calls Try.prog 33 #[v] W fun e w' => e = .returned (.tuple #[.agg #[u0, u1], .int .i64 E]) ∧ W.grownBy w' none) :
    Calls Try.prog 17 #[v] w fun e w' => e = .returned (.tuple #[.agg #[u0, u1], .int .i64 E]) ∧ w.grownBy w' none := by
  obtain ⟨a0, c0, n0, rfl⟩ := hs0
  obtain ⟨a1, c1, n1, rfl⟩ := hs1
  have g1 := World.grownBy_alloc w (.cells #[.slice none 0 0, .slice none 0 0] 27) none
  have HC : Hid (Calls Try.prog 33 #[v] (w.alloc (.cells #[.slice none 0 0, .slice none 0 0] 27)) fun e w' => e = .returned (.tuple #[.agg #[.slice a0 n0 c0, .slice a1 n1 c1], .int .i64 E]) ∧ (w.alloc (.cells #[.slice none 0 0, .slice none 0 0] 27)).grownBy w' none) := h _ g1
  have HP : Hid ((w.alloc (.cells #[.slice none 0 0, .slice none 0 0] 27)).heap[w.heap.size]? = some (.cells #[.slice none 0 0, .slice none 0 0] 27)) := heap_alloc_new w _
  have HG : Hid (w.grownBy (w.alloc (.cells #[.slice none 0 0, .slice none 0 0] 27)) none) := g1
  clear h g1
  go_enter Try.func17, Try.ntmps17
  go_wp2_with (go_at_call 33; refine HC.out.mono ?_; rintro e w4 ⟨rfl, g4⟩; have P4 : Hid (w4.heap[w.heap.size]? = some (.cells #[.slice none 0 0, .slice none 0 0] 27)) := ((g4.block _ (Array.getElem?_eq_some_iff.1 HP.out).1 (by simp)).trans HP.out); have G4 : Hid (w.grownBy w4 none) := grown_trans HG.out g4; have m0 : w4.cell? ⟨w.heap.size, 0, none⟩ = some (.slice none 0 0) := rcell P4.out 0; have m1 : w4.cell? ⟨w.heap.size, 1, none⟩ = some (.slice none 0 0) := rcell P4.out 1; have k0 : w4.frozen? ⟨w.heap.size, 0, none⟩ = false := rfrozen P4.out 0; have k1 : w4.frozen? ⟨w.heap.size, 1, none⟩ = false := rfrozen P4.out 1; clear g4 HC)
  have P5 := rset (rset P4.out 0 (.slice a0 n0 c0)) 1 (.slice a1 n1 c1)
  have G5 := ((Ch.of (l := []) G4.out).new (Nat.le_refl _) (grown_setCell w4 w.heap.size 0 (.slice a0 n0 c0))).new (Nat.le_refl _) (grown_setCell _ w.heap.size 1 (.slice a1 n1 c1))
  clear m0 m1 k0 k1
  generalize ((w4.setCell ⟨w.heap.size, 0, none⟩ (.slice a0 n0 c0)).setCell ⟨w.heap.size, 1, none⟩ (.slice a1 n1 c1)) = W5 at *
  have x0 : W5.cell? ⟨w.heap.size, 0, none⟩ = some (.slice a0 n0 c0) := rcell P5 0
  have x1 : W5.cell? ⟨w.heap.size, 1, none⟩ = some (.slice a1 n1 c1) := rcell P5 1
  refine bodyPost_ret (by simp [results, Try.results17, go_sem, x0, x1]; try rfl) rfl ?_
  exact ⟨rfl, G5.nil (by simp)⟩
theorem decode_more {w : World} {a : Option Addr} {c : Nat} {R : List Int} (h : Lf w a c (0 :: 0 :: R)) (hR : R ≠ []) :
    Calls Try.prog 17 #[.slice a (0 :: 0 :: R : List Int).length c] w fun e w' => e = .returned (.tuple #[.agg #[.slice none 0 0, .slice none 0 0], .int .i64 84]) ∧ w.grownBy w' none :=
  decode_of ⟨_, _, _, rfl⟩ ⟨_, _, _, rfl⟩ fun W g => read_more (h.kept g (by simp)) hR ⟨_, _, _, rfl⟩ ⟨_, _, _, rfl⟩ (program_nought (rdW8_ok W a c (0 :: 0 :: R) (h.kept g (by simp))).1 (rdW8_ok W a c (0 :: 0 :: R) (h.kept g (by simp))).2.2.2.size)
theorem decode_wake {w : World} {a : Option Addr} {c : Nat} (h : Lf w a c [0, 0, 0]) :
    Calls Try.prog 17 #[.slice a 3 c] w fun e w' => e = .returned (.tuple #[.agg #[.slice none 0 0, .slice none 0 0], .int .i64 84]) ∧ w.grownBy w' none := by
  have := decode_more h (by simp)
  rw [show (0 :: 0 :: [0] : List Int).length = 3 from rfl] at this
  exact this
end Go.Proofs.Ytljdjkiejppenaa
