/- Contracts and plain facts that the walks share. -/
import Derived.Test.YtljdjkiejppenaaG7
import Derived.Test.YtljdjkiejppenaaG9
import Derived.Test.YtljdjkiejppenaaPgW2
import Derived.Test.YtljdjkiejppenaaG6
import Derived.Laws.BitsAllLaws
import Derived.Defers
import Derived.Recover
import Derived.BigRegion
import Derived.Deep.RegionWith
namespace Go.Proofs.Ytljdjkiejppenaa
open Go.RowKit
set_option linter.unusedVariables false
/-- the numbers in it are of 64 bits -/
inductive ExR : Pg.Ex → Prop
  | mk {op t n : Int} {s : ByteArray} {args : List Pg.Ex} (rg : R64 n) (all : ∀ y, y ∈ args → ExR y) : ExR (.mk op t n s args)
inductive StR : Pg.St → Prop
  | mk {op n : Int} {args : List Pg.Ex} {dst : List Int} {a b : List Pg.St} (rg : R64 n) (h1 : ∀ y, y ∈ args → ExR y) (h2 : ∀ y, y ∈ a → StR y) (h3 : ∀ y, y ∈ b → StR y) : StR (.mk op n args dst a b)
theorem ExAt.rr {B : Nat → Prop} {W : World} : ∀ {b o : Nat} {x : Pg.Ex}, ExAt B W b o x → ExR x
  | _, _, _, .mk c0 c1 c2 c3 c4 rg sz nil le max fits pl all => .mk rg fun y hy => by
    obtain ⟨i, hi⟩ := List.getElem?_of_mem hy
    exact ExAt.rr (all i y hi)
theorem ExL.rr {B : Nat → Prop} {W : World} {a : Option Addr} {c : Nat} {l : List Pg.Ex} (h : ExL B W a c l) : ∀ y, y ∈ l → ExR y := fun y hy => by
  rcases h.lie with h0 | ⟨b, o, _, _, hx⟩
  · rw [h0] at hy; simp at hy
  · obtain ⟨i, hi⟩ := List.getElem?_of_mem hy
    exact (hx i y hi).rr
theorem StAt.rr {B : Nat → Prop} {W : World} : ∀ {b o : Nat} {x : Pg.St}, StAt B W b o x → StR x
  | _, _, _, .mk c0 c1 c2 c3 c4 c5 rg h1 h2 n3 l3 m3 f3 p3 q3 n4 l4 m4 f4 p4 q4 => .mk rg h1.rr (fun y hy => by
    obtain ⟨i, hi⟩ := List.getElem?_of_mem hy
    exact StAt.rr (q3 i y hi)) (fun y hy => by
    obtain ⟨i, hi⟩ := List.getElem?_of_mem hy
    exact StAt.rr (q4 i y hi))
theorem StL.rr {B : Nat → Prop} {W : World} {a : Option Addr} {c : Nat} {l : List Pg.St} (h : StL B W a c l) : ∀ y, y ∈ l → StR y := fun y hy => by
  rcases h.lie with h0 | ⟨b, o, _, _, hx⟩
  · rw [h0] at hy; simp at hy
  · obtain ⟨i, hi⟩ := List.getElem?_of_mem hy
    exact (hx i y hi).rr
theorem FnL.rr {B : Nat → Prop} {W : World} {a : Option Addr} {c : Nat} {l : List Pg.Fn} (h : FnL B W a c l) : ∀ f, f ∈ l → ∀ y, y ∈ f.body → StR y := fun f hf => by
  rcases h.lie with h0 | ⟨b, o, _, _, hx⟩
  · rw [h0] at hf; simp at hf
  · obtain ⟨i, hi⟩ := List.getElem?_of_mem hf
    obtain ⟨_, _, _, _, _, _, he⟩ := hx i f hi
    exact he.b.rr
namespace Pg
theorem cnt_may (n : Int) : (dCnt n).may = okB n := rfl
theorem cnt_len (n : Int) : (dCnt n).en.length ≤ 5 := by
  unfold dCnt
  by_cases h : okB n = true
  · simp only [h, if_true]
    refine grp_len 4 _ ?_
    have : 0 ≤ n ∧ n < 2147483648 := by simpa [okB] using h
    have h2 : (2147483648 : Nat) ≤ 128 ^ 5 := by decide
    omega
  · simp [h]
theorem num_len {n : Int} (h : R64 n) : (dNum n).en.length ≤ 10 := by
  refine grp_len 9 _ ?_
  have := zig_lt h
  have h2 : (18446744073709551616 : Nat) ≤ 128 ^ 10 := by decide
  omega
theorem txt_en (s : ByteArray) : (dTxt s).en.length ≤ 258 := by
  unfold dTxt
  by_cases h : s.size ≤ 256
  · rw [if_pos h, List.length_append, txt_len]
    have := grp_len 1 s.size (by have : (128 : Nat) ^ 2 = 16384 := by decide
                                 omega)
    omega
  · rw [if_neg h]; simp
theorem nums_en (l : List Int) : (dNumL l).en.length ≤ 5 + 5 * l.length := by
  have h1 := cnt_len (l.length : Int)
  have h2 : ∀ l : List Int, (dNums l).en.length ≤ 5 * l.length := by
    intro l
    induction l with
    | nil => simp [dNums, Dl.nil]
    | cons n l ih => have := cnt_len n; simp only [dNums, Dl.app, List.length_append, List.length_cons]; omega
  have := h2 l
  simp only [dNumL, Dl.app, List.length_append]
  omega
theorem nums_may {l : List Int} (h : l.length < 2147483648) : (dNumL l).may = l.all okB := by
  have h2 : ∀ l : List Int, (dNums l).may = l.all okB := by
    intro l
    induction l with
    | nil => rfl
    | cons n l ih => simp only [dNums, Dl.app, ih, List.all_cons]; rfl
  have h1 : okB (l.length : Int) = true := by simp [okB]; omega
  simp only [dNumL, Dl.app, h2]
  rw [cnt_may (l.length : Int), h1, Bool.true_and]
/-- what is said of a part -/
def Bd (d : Dl) (w : Int) (may : Bool) : Prop := 0 ≤ w ∧ (d.nd : Int) ≤ w ∧ d.dp ≤ d.nd ∧ (d.en.length : Int) ≤ 300 * w ∧ (w ≤ 1000000 → d.may = may)
theorem es_bd : ∀ l : List Ex, (∀ y, y ∈ l → Bd y.dl y.w y.may ∧ 1 ≤ y.w) → Bd (dCat Ex.dl l) (wEs l) (l.all Ex.may) ∧ (l.length : Int) ≤ wEs l
  | [], _ => ⟨⟨by simp [wEs], by simp [dCat, Dl.nil, wEs], by simp [dCat, Dl.nil], by simp [dCat, Dl.nil, wEs], fun _ => rfl⟩, by simp [wEs]⟩
  | x :: l, h => by
    obtain ⟨⟨a1, a2, a3, a4, a5⟩, a6⟩ := h x (by simp)
    obtain ⟨⟨b1, b2, b3, b4, b5⟩, b6⟩ := es_bd l (fun y hy => h y (by simp [hy]))
    refine ⟨⟨?_, ?_, ?_, ?_, fun hw => ?_⟩, ?_⟩
    · simp only [wEs]; omega
    · simp only [wEs, dCat, Dl.app]; omega
    · simp only [dCat, Dl.app]; omega
    · simp only [wEs, dCat, Dl.app, List.length_append]; omega
    · simp only [wEs] at hw
      simp only [dCat, Dl.app, List.all_cons, a5 (by omega), b5 (by omega)]
    · simp only [wEs, List.length_cons]; omega
theorem ex_bd (x : Ex) : ExR x → Bd x.dl x.w x.may ∧ 1 ≤ x.w := by
  refine Ex.ind (P := fun x => ExR x → Bd x.dl x.w x.may ∧ 1 ≤ x.w) ?_ x
  intro op t n s args ih hr
  cases hr with
  | mk rg all =>
    obtain ⟨⟨b1, b2, b3, b4, b5⟩, b6⟩ := es_bd args (fun y hy => ih y hy (all y hy))
    have e := Ex.dl_eq (.mk op t n s args)
    have hw := Ex.w_eq (.mk op t n s args)
    have hm := Ex.may_eq (.mk op t n s args)
    have nd := Ex.nd_eq (.mk op t n s args)
    simp only [Ex.op, Ex.t, Ex.n, Ex.s, Ex.args] at e hw hm nd
    have hs : 0 ≤ (s.size : Int) / 16 := by omega
    refine ⟨⟨by omega, by omega, by omega, ?_, fun h => ?_⟩, by omega⟩
    · have q1 := cnt_len op
      have q2 := cnt_len t
      have q3 := num_len rg
      have q4 := txt_en s
      have q5 := cnt_len (args.length : Int)
      rw [e]
      simp only [Dl.node, Dl.app, List.length_append, dExL, dEs_cat]
      omega
    · rw [e, hm]
      have q5 : okB (args.length : Int) = true := by simp [okB]; omega
      simp only [Dl.node, Dl.app, dExL, dEs_cat, b5 (by omega)]
      rw [cnt_may (args.length : Int), q5, cnt_may op, cnt_may t, show (dNum n).may = true from rfl]
      have ht : (dTxt s).may = decide ((s.size : Int) ≤ 256) := by
        unfold dTxt
        by_cases h : s.size ≤ 256
        · rw [if_pos h]; exact (decide_eq_true (by omega)).symm
        · rw [if_neg h]; exact (decide_eq_false (by omega)).symm
      rw [ht]
      by_cases h256 : (s.size : Int) ≤ 256
      · have e1 : ∀ {i : Decidable ((s.size : Int) ≤ 256)}, @decide ((s.size : Int) ≤ 256) i = true := fun {i} => @decide_eq_true _ i h256
        simp only [e1]
        cases okB op <;> cases okB t <;> cases (args.all Ex.may) <;> first | rfl | (simp; exact decide_eq_true h256)
      · have e1 : ∀ {i : Decidable ((s.size : Int) ≤ 256)}, @decide ((s.size : Int) ≤ 256) i = false := fun {i} => @decide_eq_false _ i h256
        simp only [e1]
        cases okB op <;> cases okB t <;> cases (args.all Ex.may) <;> first | rfl | (simp; exact decide_eq_false h256)
theorem ss_bd : ∀ l : List St, (∀ y, y ∈ l → Bd y.dl y.w y.may ∧ 1 ≤ y.w) → Bd (dCat St.dl l) (wSs l) (l.all St.may) ∧ (l.length : Int) ≤ wSs l
  | [], _ => ⟨⟨by simp [wSs], by simp [dCat, Dl.nil, wSs], by simp [dCat, Dl.nil], by simp [dCat, Dl.nil, wSs], fun _ => rfl⟩, by simp [wSs]⟩
  | x :: l, h => by
    obtain ⟨⟨a1, a2, a3, a4, a5⟩, a6⟩ := h x (by simp)
    obtain ⟨⟨b1, b2, b3, b4, b5⟩, b6⟩ := ss_bd l (fun y hy => h y (by simp [hy]))
    refine ⟨⟨?_, ?_, ?_, ?_, fun hw => ?_⟩, ?_⟩
    · simp only [wSs]; omega
    · simp only [wSs, dCat, Dl.app]; omega
    · simp only [dCat, Dl.app]; omega
    · simp only [wSs, dCat, Dl.app, List.length_append]; omega
    · simp only [wSs] at hw
      simp only [dCat, Dl.app, List.all_cons, a5 (by omega), b5 (by omega)]
    · simp only [wSs, List.length_cons]; omega
theorem okL {n : Nat} (h : (n : Int) ≤ 1000000) : okB (n : Int) = true := by simp [okB]; omega
theorem st_bd (x : St) : StR x → Bd x.dl x.w x.may ∧ 1 ≤ x.w := by
  refine St.ind (P := fun x => StR x → Bd x.dl x.w x.may ∧ 1 ≤ x.w) ?_ x
  intro op n args dst a b ia ib hr
  cases hr with
  | mk rg h1 h2 h3 =>
    obtain ⟨⟨b1, b2, b3, b4, b5⟩, b6⟩ := es_bd args (fun y hy => ex_bd y (h1 y hy))
    obtain ⟨⟨c1, c2, c3, c4, c5⟩, c6⟩ := ss_bd a (fun y hy => ia y hy (h2 y hy))
    obtain ⟨⟨d1, d2, d3, d4, d5⟩, d6⟩ := ss_bd b (fun y hy => ib y hy (h3 y hy))
    have e := St.dl_eq (.mk op n args dst a b)
    have hw := St.w_eq (.mk op n args dst a b)
    have hm := St.may_eq (.mk op n args dst a b)
    have nd := St.nd_eq (.mk op n args dst a b)
    simp only [St.op, St.n, St.args, St.dst, St.a, St.b] at e hw hm nd
    refine ⟨⟨by omega, by omega, by omega, ?_, fun h => ?_⟩, by omega⟩
    · have q1 := cnt_len op
      have q3 := num_len rg
      have q4 := nums_en dst
      have q5 := cnt_len (args.length : Int)
      have q6 := cnt_len (a.length : Int)
      have q7 := cnt_len (b.length : Int)
      rw [e]
      simp only [Dl.node, Dl.app, List.length_append, dExL, dEs_cat, dStL, dSs_cat]
      omega
    · rw [e, hm]
      simp only [Dl.node, Dl.app, dExL, dEs_cat, dStL, dSs_cat, b5 (by omega), c5 (by omega), d5 (by omega), nums_may (l := dst) (by omega)]
      rw [cnt_may (args.length : Int), okL (by omega), cnt_may (a.length : Int), okL (by omega), cnt_may (b.length : Int), okL (by omega), cnt_may op, show (dNum n).may = true from rfl]
      cases okB op <;> cases (args.all Ex.may) <;> cases (dst.all okB) <;> simp
theorem ts_bd : ∀ l : List Tp, 0 ≤ wTs l ∧ ((dCat Tp.dl l).en.length : Int) ≤ 300 * (wTs l + l.length) ∧ (wTs l ≤ 1000000 → (dCat Tp.dl l).may = l.all Tp.may)
  | [] => ⟨by simp [wTs], by simp [dCat, Dl.nil, wTs], fun _ => rfl⟩
  | x :: l => by
    obtain ⟨a1, a2, a3⟩ := ts_bd l
    have q1 := cnt_len x.kind
    have q2 := cnt_len x.elem
    have q3 := cnt_len x.n
    have q4 := nums_en x.fields
    refine ⟨by simp only [wTs]; omega, ?_, fun h => ?_⟩
    · simp only [wTs, dCat, Dl.app, Tp.dl, List.length_append, List.length_cons]; omega
    · simp only [wTs] at h
      simp only [dCat, Dl.app, Tp.dl, List.all_cons, Tp.may, a3 (by omega), nums_may (l := x.fields) (by omega)]
      rfl
theorem fs_bd : ∀ l : List Fn, (∀ f, f ∈ l → ∀ y, y ∈ f.body → StR y) → 0 ≤ wFs l ∧ ((dCat Fn.dl l).nd : Int) ≤ wFs l ∧ (dCat Fn.dl l).dp ≤ (dCat Fn.dl l).nd ∧ ((dCat Fn.dl l).en.length : Int) ≤ 300 * (wFs l + l.length) ∧ (wFs l ≤ 1000000 → (dCat Fn.dl l).may = l.all Fn.may)
  | [], _ => ⟨by simp [wFs], by simp [dCat, Dl.nil, wFs], by simp [dCat, Dl.nil], by simp [dCat, Dl.nil, wFs], fun _ => rfl⟩
  | x :: l, h => by
    obtain ⟨a1, a2, a3, a4, a5⟩ := fs_bd l (fun f hf => h f (by simp [hf]))
    obtain ⟨⟨b1, b2, b3, b4, b5⟩, b6⟩ := ss_bd x.body (fun y hy => st_bd y (h x (by simp) y hy))
    have q1 := cnt_len x.params
    have q2 := nums_en x.locals
    have q3 := nums_en x.results
    have q4 := cnt_len (x.body.length : Int)
    have nd := Fn.nd_eq x
    refine ⟨by simp only [wFs, Fn.w]; omega, ?_, ?_, ?_, fun h => ?_⟩
    · simp only [wFs, Fn.w, dCat, Dl.app]; omega
    · simp only [dCat, Dl.app]; omega
    · simp only [wFs, Fn.w, dCat, Dl.app, Fn.dl, List.length_append, List.length_cons, dStL, dSs_cat]; omega
    · simp only [wFs, Fn.w] at h
      simp only [dCat, Dl.app, Fn.dl, List.all_cons, Fn.may, a5 (by omega), nums_may (l := x.locals) (by omega), nums_may (l := x.results) (by omega), dStL, dSs_cat, b5 (by omega)]
      rw [cnt_may (x.body.length : Int), okL (by omega), cnt_may x.params, Bool.true_and]
theorem pr_bd (p : Pr) (h : ∀ f, f ∈ p.funcs → ∀ y, y ∈ f.body → StR y) (hw : p.w ≤ 1000000) : p.dl.nd ≤ 1000000 ∧ p.dl.dp ≤ p.dl.nd ∧ p.dl.en.length ≤ 600000020 ∧ p.dl.may = p.may := by
  obtain ⟨a1, a2, a3⟩ := ts_bd p.types
  obtain ⟨b1, b2, b3, b4, b5⟩ := fs_bd p.funcs h
  have nd := Pr.nd_eq p
  have q1 := cnt_len (p.types.length : Int)
  have q2 := cnt_len (p.funcs.length : Int)
  unfold Pr.w at hw
  refine ⟨by omega, by omega, ?_, ?_⟩
  · simp only [Pr.dl, Dl.app, List.length_append, dTs_cat, dFs_cat]; omega
  · simp only [Pr.dl, Dl.app, dTs_cat, dFs_cat, Pr.may, a3 (by omega), b5 (by omega)]
    rw [cnt_may (p.types.length : Int), okL (by omega), cnt_may (p.funcs.length : Int), okL (by omega), Bool.true_and, Bool.true_and]
theorem pr_err (p : Pr) (hm : p.dl.may = p.may) : p.err = p.rerr := by
  unfold Pr.err Pr.rerr Ws.err Ws.on
  simp only [hm, Bool.false_or, Nat.zero_add, Nat.zero_max]
  cases p.may <;> simp
end Pg
theorem pr_rm {B : Nat → Prop} {w : World} {p : Pg.Pr} {a1 a2 : Option Addr} {k1 k2 : Nat} (h : PrC B w p a1 a2 k1 k2) (hw : p.w ≤ 60000) : Rm ⟨false, 0, 0, 0⟩ [] p.dl ∧ p.dl.nd ≤ 100000000 ∧ p.dl.en.length ≤ 1000000000 ∧ p.err = p.rerr ∧ p.dl.may = p.may := by
  obtain ⟨q1, q2, q3, q4⟩ := Pg.pr_bd p h.f.rr (by omega)
  have q5 : (p.dl.nd : Int) ≤ 60000 := by
    obtain ⟨a1, _, _⟩ := Pg.ts_bd p.types
    obtain ⟨b1, b2, _, _, _⟩ := Pg.fs_bd p.funcs h.f.rr
    have nd := Pg.Pr.nd_eq p
    unfold Pg.Pr.w at hw
    omega
  refine ⟨⟨?_, ?_, ?_⟩, by omega, by omega, Pg.pr_err p q4, q4⟩
  · show 0 + p.dl.nd < _; omega
  · show 0 + p.dl.dp < _; omega
  · simp only [List.length_nil]; omega
/-- bytes that are left to be read -/
structure Lf (w : World) (a : Option Addr) (c : Nat) (L : List Int) : Prop where
  le : L.length ≤ c
  max : c ≤ maxLen
  nil : a = none → c = 0
  lie : ∀ g off s, a = some ⟨g, off, s⟩ → s = none ∧ g < w.heap.size ∧ ∀ (j : Nat) (z : Int), L[j]? = some z → w.cell? ⟨g, off + j, none⟩ = some (.int .u8 z)
/-- a reader, as it lies: what is left, how many nodes were begun, in how many it stands -/
def Rd (lim : Nat) (w : World) (B : Nat) (L : List Int) (n d : Nat) : Prop := ∃ a c, w.heap[B]? = some (.cells #[.slice a L.length c, .int .i64 n, .int .i64 d] 106) ∧ Lf w a c L ∧ ∀ g off s, a = some ⟨g, off, s⟩ → g ≠ B ∧ g < lim
theorem rcell {w : World} {B : Nat} {c : Array Value} {t : TypeId} {fr : Nat × Nat} (h : w.heap[B]? = some (.cells c t fr)) (i : Nat) : w.cell? ⟨B, i, none⟩ = c[i]? := by simp [World.cell?, h]
theorem rfrozen {w : World} {B : Nat} {c : Array Value} {t : TypeId} (h : w.heap[B]? = some (.cells c t)) (i : Nat) : w.frozen? ⟨B, i, none⟩ = false := by simp [World.frozen?, h]
theorem rset {w : World} {B : Nat} {c : Array Value} {t : TypeId} {fr : Nat × Nat} (h : w.heap[B]? = some (.cells c t fr)) (i : Nat) (v : Value) : (w.setCell ⟨B, i, none⟩ v).heap[B]? = some (.cells (c.setIfInBounds i v) t fr) := by
  simp [World.setCell, Array.getElem?_modify, h]
theorem Lf.kept {w w' : World} {a : Option Addr} {c : Nat} {L : List Int} (h : Lf w a c L) {row : Option Nat} (hg : w.grownBy w' row) (hne : ∀ g off s, a = some ⟨g, off, s⟩ → some g ≠ row) : Lf w' a c L :=
  ⟨h.le, h.max, h.nil, fun g off s e => by
    obtain ⟨h1, h2, h3⟩ := h.lie g off s e
    exact ⟨h1, Nat.lt_of_lt_of_le h2 hg.size, fun j z hj => hg.cell (h3 j z hj) (hne g off s e)⟩⟩
theorem Rd.kept {lim : Nat} {w w' : World} {B q : Nat} {L : List Int} {n d : Nat} (h : Rd lim w B L n d) (hg : w.grownBy w' (some q)) (h1 : lim ≤ q) (h2 : q ≠ B) : Rd lim w' B L n d := by
  obtain ⟨a, c, h3, h4, h5⟩ := h
  have hb : B < w.heap.size := (Array.getElem?_eq_some_iff.1 h3).1
  exact ⟨a, c, by rw [hg.block B hb (by simp; omega)]; exact h3, h4.kept hg (fun g off s e => by have := (h5 g off s e).2; simp; omega), h5⟩
theorem Rd.grow {lim : Nat} {w w' : World} {B : Nat} {L : List Int} {n d : Nat} (h : Rd lim w B L n d) (hg : w.grownBy w' none) : Rd lim w' B L n d := by
  obtain ⟨a, c, h1, h2, h3⟩ := h
  have hb : B < w.heap.size := (Array.getElem?_eq_some_iff.1 h1).1
  exact ⟨a, c, by rw [hg.block B hb (by simp)]; exact h1, h2.kept hg (by simp), h3⟩
set_option maxRecDepth 100000 in
set_option maxHeartbeats 4000000 in
theorem next_ok {lim : Nat} {w : World} {B : Nat} {z : Int} {R : List Int} {n d : Nat} (h : Rd lim w B (z :: R) n d) :
    Calls Try.prog 108 #[.pointer (some ⟨B, 0, none⟩)] w fun e w' => e = .returned (.int .u8 z) ∧ Rd lim w' B R n d ∧ w.grownBy w' (some B) := by
  obtain ⟨a, c, h1, h2, h3⟩ := h
  obtain ⟨g, off, s, rfl⟩ : ∃ g off s, a = some ⟨g, off, s⟩ := by
    cases a with
    | none => have := h2.nil rfl; have := h2.le; simp at this; omega
    | some x => exact ⟨x.block, x.off, x.spot, rfl⟩
  obtain ⟨rfl, hgs, hcell⟩ := h2.lie g off s rfl
  obtain ⟨hgB, hgl⟩ := h3 g off none rfl
  have c0 : w.cell? ⟨B, 0, none⟩ = some (.slice (some ⟨g, off, none⟩) (R.length + 1) c) := rcell h1 0
  have f0 : w.frozen? ⟨B, 0, none⟩ = false := rfrozen h1 0
  have cz : w.cell? ⟨g, off, none⟩ = some (.int .u8 z) := hcell 0 z rfl
  have hle : R.length + 1 ≤ c := by have := h2.le; simpa using this
  have hmx : c ≤ 9223372036854775807 := h2.max
  have HR : Hid (∀ a' : Option Addr, (a' = some ⟨g, off, none⟩ ∧ c = 1) ∨ (a' = some ⟨g, off + 1, none⟩) → Rd lim (w.setCell ⟨B, 0, none⟩ (.slice a' R.length (c - 1))) B R n d ∧ w.grownBy (w.setCell ⟨B, 0, none⟩ (.slice a' R.length (c - 1))) (some B)) := by
    intro a' ha
    have hg := grown_setCell w B 0 (.slice a' R.length (c - 1))
    refine ⟨⟨a', c - 1, by rw [rset h1 0]; rfl, ?_, ?_⟩, hg⟩
    · refine Lf.kept (w := w) ⟨by omega, by have := h2.max; omega, fun e => ?_, fun g' off' s' e => ?_⟩ hg ?_
      · rcases ha with ⟨rfl, _⟩ | rfl <;> cases e
      · rcases ha with ⟨rfl, hc⟩ | rfl
        · have hR : R = [] := List.length_eq_zero_iff.1 (by omega)
          injection e with e; injection e with e1 e2 e3
          subst e1; subst e2; subst e3
          exact ⟨rfl, hgs, fun j y hj => by rw [hR] at hj; simp at hj⟩
        · injection e with e; injection e with e1 e2 e3
          subst e1; subst e2; subst e3
          refine ⟨rfl, hgs, fun j y hj => ?_⟩
          have := hcell (j + 1) y (by simpa using hj)
          rw [show off + 1 + j = off + (j + 1) by omega]
          exact this
      · intro g' off' s' e
        rcases ha with ⟨rfl, _⟩ | rfl
        · injection e with e; injection e with e1 e2 e3
          subst e1
          simpa using hgB
        · injection e with e; injection e with e1 e2 e3
          subst e1
          simpa using hgB
    · intro g' off' s' e
      rcases ha with ⟨rfl, _⟩ | rfl
      · injection e with e; injection e with e1 e2 e3
        subst e1
        exact ⟨hgB, hgl⟩
      · injection e with e; injection e with e1 e2 e3
        subst e1
        exact ⟨hgB, hgl⟩
  clear h1 h2 h3 hcell
  by_cases hc1 : c = 1
  · subst hc1
    obtain rfl : R = [] := List.length_eq_zero_iff.1 (by omega)
    simp only [List.length_nil, Nat.zero_add] at c0
    go_enter Try.func108, Try.ntmps108
    go_wp2
    go_ret
    exact ⟨rfl, HR.out (some ⟨g, off, none⟩) (.inl (by simp))⟩
  · go_enter Try.func108, Try.ntmps108
    go_wp2
    go_ret
    exact ⟨rfl, HR.out _ (.inr rfl)⟩
set_option maxRecDepth 100000 in
set_option maxHeartbeats 4000000 in
theorem groups_one {lim : Nat} {w : World} {B : Nat} {z : Int} {R : List Int} {n d : Nat} (h : Rd lim w B (z :: R) n d) (h0 : 0 ≤ z) (h1 : z < 128) {most last : Int} (hm : 2 ≤ most ∧ most ≤ 10) :
    Calls Try.prog 100 #[.pointer (some ⟨B, 0, none⟩), .int .i64 most, .int .u8 last] w fun e w' => e = .returned (.int .u64 z) ∧ Rd lim w' B R n d ∧ w.grownBy w' (some B) := by
  have HC : Hid (Calls Try.prog 108 #[.pointer (some ⟨B, 0, none⟩)] w fun e w' => e = .returned (.int .u8 z) ∧ Rd lim w' B R n d ∧ w.grownBy w' (some B)) := next_ok h
  have q1 : ((0 : Int) == most - 1) = false := by simp; omega
  have q2 : z % 128 = z := by omega
  have HB : Hid (bits .or .u64 0 z = z) := by
    show _ = z
    rw [u64_or _ _ (by omega) (by omega) h0 (by omega)]
    simp
    omega
  obtain ⟨hm1, hm2⟩ := hm
  clear h
  go_enter Try.func100, Try.ntmps100
  go_wp2_with fail
  refine wp_loop_once ?_
  go_wp2_with (go_at_call 108; refine HC.out.mono ?_; rintro e w4 ⟨rfl, h4⟩; have H4 : Hid (Rd lim w4 B R n d ∧ w.grownBy w4 (some B)) := h4; clear h4 HC)
  go_ret
  refine ⟨?_, H4.out⟩
  show Ending.returned (Value.int .u64 (bits .or .u64 0 z)) = _
  rw [HB.out]
set_option maxRecDepth 100000 in
set_option maxHeartbeats 4000000 in
theorem count_one {lim : Nat} {w : World} {B : Nat} {z : Int} {R : List Int} {n d : Nat} (h : Rd lim w B (z :: R) n d) (h0 : 0 ≤ z) (h1 : z < 128) :
    Calls Try.prog 92 #[.pointer (some ⟨B, 0, none⟩)] w fun e w' => e = .returned (.int .i64 z) ∧ Rd lim w' B R n d ∧ w.grownBy w' (some B) := by
  have HC : Hid (Calls Try.prog 100 #[.pointer (some ⟨B, 0, none⟩), .int .i64 5, .int .u8 7] w fun e w' => e = .returned (.int .u64 z) ∧ Rd lim w' B R n d ∧ w.grownBy w' (some B)) := groups_one h h0 h1 (by decide)
  clear h
  go_enter Try.func92, Try.ntmps92
  go_wp2_with (go_at_call 100; refine HC.out.mono ?_; rintro e w4 ⟨rfl, h4⟩; have H4 : Hid (Rd lim w4 B R n d ∧ w.grownBy w4 (some B)) := h4; clear h4 HC)
  go_ret
  exact ⟨rfl, H4.out⟩
set_option maxRecDepth 100000 in
set_option maxHeartbeats 4000000 in
theorem length_nought {lim : Nat} {w : World} {B : Nat} {R : List Int} {n d : Nat} (h : Rd lim w B (0 :: R) n d) :
    Calls Try.prog 91 #[.pointer (some ⟨B, 0, none⟩)] w fun e w' => e = .returned (.int .i64 0) ∧ Rd lim w' B R n d ∧ w.grownBy w' (some B) := by
  have HC : Hid (Calls Try.prog 92 #[.pointer (some ⟨B, 0, none⟩)] w fun e w' => e = .returned (.int .i64 0) ∧ Rd lim w' B R n d ∧ w.grownBy w' (some B)) := count_one h (by decide) (by decide)
  clear h
  go_enter Try.func91, Try.ntmps91
  go_wp2_with (go_at_call 92; refine HC.out.mono ?_; rintro e w4 ⟨rfl, h4⟩; have H4 : Hid (Rd lim w4 B R n d ∧ w.grownBy w4 (some B)) := h4; obtain ⟨a, c, h1, h2, h3⟩ := h4.1; have c0 : w4.cell? ⟨B, 0, none⟩ = some (.slice a R.length c) := rcell h1 0; have hz : ¬ ((R.length : Int) < 0) := (by omega); have hz' : decide ((R.length : Int) < 0) = false := decide_eq_false hz; clear h4 HC h1 h2 h3)
  go_ret
  exact ⟨rfl, H4.out⟩
set_option maxRecDepth 100000 in
theorem tlist_nought {lim : Nat} {w : World} {B : Nat} {R : List Int} {n d : Nat} (h : Rd lim w B (0 :: R) n d) {k : Nat} {fs : Array Value} :
    Calls Try.prog 77 #[.pointer (some ⟨B, 0, none⟩), .func (.func k) fs #[]] w fun e w' => e = .returned (.slice none 0 0) ∧ Rd lim w' B R n d ∧ w.grownBy w' (some B) := by
  have HC : Hid (Calls Try.prog 91 #[.pointer (some ⟨B, 0, none⟩)] w fun e w' => e = .returned (.int .i64 0) ∧ Rd lim w' B R n d ∧ w.grownBy w' (some B)) := length_nought h
  clear h
  go_enter Try.func77, Try.ntmps77
  go_wp2_with (go_at_call 91; refine HC.out.mono ?_; rintro e w4 ⟨rfl, h4⟩; have H4 : Hid (Rd lim w4 B R n d ∧ w.grownBy w4 (some B)) := h4; clear h4 HC)
  refine wp_loop_once ?_
  go_wp2
  go_ret
  exact ⟨rfl, H4.out⟩
set_option maxRecDepth 100000 in
theorem flist_nought {lim : Nat} {w : World} {B : Nat} {R : List Int} {n d : Nat} (h : Rd lim w B (0 :: R) n d) {k : Nat} {fs : Array Value} :
    Calls Try.prog 79 #[.pointer (some ⟨B, 0, none⟩), .func (.func k) fs #[]] w fun e w' => e = .returned (.slice none 0 0) ∧ Rd lim w' B R n d ∧ w.grownBy w' (some B) := by
  have HC : Hid (Calls Try.prog 91 #[.pointer (some ⟨B, 0, none⟩)] w fun e w' => e = .returned (.int .i64 0) ∧ Rd lim w' B R n d ∧ w.grownBy w' (some B)) := length_nought h
  clear h
  go_enter Try.func79, Try.ntmps79
  go_wp2_with (go_at_call 91; refine HC.out.mono ?_; rintro e w4 ⟨rfl, h4⟩; have H4 : Hid (Rd lim w4 B R n d ∧ w.grownBy w4 (some B)) := h4; clear h4 HC)
  refine wp_loop_once ?_
  go_wp2
  go_ret
  exact ⟨rfl, H4.out⟩
set_option maxRecDepth 100000 in
set_option maxHeartbeats 4000000 in
theorem program_nought {lim : Nat} {w : World} {B : Nat} {R : List Int} {n d : Nat} (h : Rd lim w B (0 :: 0 :: R) n d) (hlim : lim ≤ w.heap.size) :
    Calls Try.prog 60 #[.pointer (some ⟨B, 0, none⟩)] w fun e w' => e = .returned (.agg #[.slice none 0 0, .slice none 0 0]) ∧ Rd lim w' B R n d ∧ w.grownBy w' (some B) := by
  have hbs : B < w.heap.size := by obtain ⟨a, c, h1, _⟩ := h; exact (Array.getElem?_eq_some_iff.1 h1).1
  obtain ⟨W1, hW1⟩ : ∃ W1, W1 = w.alloc (.cells #[.slice none 0 0, .slice none 0 0] 27) := ⟨_, rfl⟩
  have HW1 : Hid (W1 = w.alloc (.cells #[.slice none 0 0, .slice none 0 0] 27)) := hW1
  have g1 : w.grownBy W1 none := by rw [hW1]; exact World.grownBy_alloc _ _ _
  have HG1 : Hid (w.grownBy W1 none) := g1
  have HP : Hid (W1.heap[w.heap.size]? = some (.cells #[.slice none 0 0, .slice none 0 0] 27)) := by show _ = _; rw [hW1]; exact heap_alloc_new w _
  have HC := fun (k : Nat) (fs : Array Value) => tlist_nought (k := k) (fs := fs) (h.grow g1)
  clear h g1 hW1
  go_enter Try.func60, Try.ntmps60
  go_wp2_with (first
    | (go_at_call 77; rw [← HW1.out]; refine (HC _ _).mono ?_; rintro e w4 ⟨rfl, h4, g4⟩; have P4 : Hid (w4.heap[w.heap.size]? = some (.cells #[.slice none 0 0, .slice none 0 0] 27)) := (by show _ = _; rw [g4.block _ (Array.getElem?_eq_some_iff.1 HP.out).1 (by simp; omega)]; exact HP.out); have d0 : w4.cell? ⟨w.heap.size, 0, none⟩ = some (.slice none 0 0) := rcell P4.out 0; have f0 : w4.frozen? ⟨w.heap.size, 0, none⟩ = false := rfrozen P4.out 0; have G4 : Hid (Ch w w4 [B]) := ((Ch.of HG1.out).trans (Ch.one g4 (by simp))); have HC2 := (fun (k : Nat) (fs : Array Value) => flist_nought (k := k) (fs := fs) (h4.kept (grown_setCell w4 w.heap.size 0 (.slice none 0 0)) hlim (by omega))); have P5 : Hid ((w4.setCell ⟨w.heap.size, 0, none⟩ (.slice none 0 0)).heap[w.heap.size]? = some (.cells #[.slice none 0 0, .slice none 0 0] 27)) := rset P4.out 0 (.slice none 0 0); clear h4 g4 HC)
    | (go_at_call 79; refine (HC2 _ _).mono ?_; rintro e w5 ⟨rfl, h5, g5⟩; have P6 : Hid (w5.heap[w.heap.size]? = some (.cells #[.slice none 0 0, .slice none 0 0] 27)) := (by show _ = _; rw [g5.block _ (Array.getElem?_eq_some_iff.1 P5.out).1 (by simp; omega)]; exact P5.out); have e0 : w5.cell? ⟨w.heap.size, 0, none⟩ = some (.slice none 0 0) := rcell P6.out 0; have e1 : w5.cell? ⟨w.heap.size, 1, none⟩ = some (.slice none 0 0) := rcell P6.out 1; have k0 : w5.frozen? ⟨w.heap.size, 0, none⟩ = false := rfrozen P6.out 0; have k1 : w5.frozen? ⟨w.heap.size, 1, none⟩ = false := rfrozen P6.out 1; have R5 : Hid (Rd lim w5 B R n d) := h5; have G5 : Hid (Ch w w5 [B]) := (Ch.trans (G4.out.new (Nat.le_refl _) (grown_setCell w4 w.heap.size 0 (.slice none 0 0))) (Ch.one g5 (by simp))); clear h5 g5 HC2))
  have P7 := rset (rset (rset P6.out 1 (.slice none 0 0)) 0 (.slice none 0 0)) 1 (.slice none 0 0)
  have G7 := (((G5.out.new (Nat.le_refl _) (grown_setCell w5 w.heap.size 1 (.slice none 0 0))).new (Nat.le_refl _) (grown_setCell _ w.heap.size 0 (.slice none 0 0))).new (Nat.le_refl _) (grown_setCell _ w.heap.size 1 (.slice none 0 0)))
  have R7 := ((R5.out.kept (grown_setCell w5 w.heap.size 1 (.slice none 0 0)) hlim (by omega)).kept (grown_setCell _ w.heap.size 0 (.slice none 0 0)) hlim (by omega)).kept (grown_setCell _ w.heap.size 1 (.slice none 0 0)) hlim (by omega)
  clear e0 e1 k0 k1 d0 f0 P6 P5 P4 R5 G5 G4
  generalize (((w5.setCell ⟨w.heap.size, 1, none⟩ (.slice none 0 0)).setCell ⟨w.heap.size, 0, none⟩ (.slice none 0 0)).setCell ⟨w.heap.size, 1, none⟩ (.slice none 0 0)) = W9 at *
  have r0 : W9.cell? ⟨w.heap.size, 0, none⟩ = some (.slice none 0 0) := rcell P7 0
  have r1 : W9.cell? ⟨w.heap.size, 1, none⟩ = some (.slice none 0 0) := rcell P7 1
  refine bodyPost_ret (by simp [results, Try.results60, go_sem, r0, r1]; try rfl) rfl ?_
  exact ⟨rfl, R7, ⟨G7.os, G7.tape, G7.output, G7.size, fun k hk hne => G7.block k hk (by simpa using hne)⟩⟩
theorem assert_fault (x : Int) (w : World) : (Instr.typeAssert (.iface 102 (.agg #[.int .i64 x])) 20 102 true).run Try.prog w = .ok (.tuple #[.agg #[.int .i64 x], .bool true]) w := by kernel_rfl
set_option maxRecDepth 100000 in
set_option maxHeartbeats 4000000 in
theorem fault_caught (PB EB : Nat) (x : Int) (v0 v1 z : Value) (older : List PanicEntry) (w : World) (hp : w.heap[PB]? = some (.cells #[v0, v1] 27)) (he : w.heap[EB]? = some (.cells #[z] 30)) (hne : PB ≠ EB) :
    CallsD Try.prog 59 #[.pointer (some ⟨PB, 0, none⟩), .pointer (some ⟨EB, 0, none⟩)] (.panicking ({ v := .iface 102 (.agg #[.int .i64 x]), recovered := false } :: older)) w fun e u' w' => e = .returned (.tuple #[]) ∧ u' = .panicking ({ v := .iface 102 (.agg #[.int .i64 x]), recovered := true } :: older) ∧ w'.heap[PB]? = some (.cells #[.slice none 0 0, .slice none 0 0] 27) ∧ w'.heap[EB]? = some (.cells #[.int .i64 x] 30) ∧ Ch w w' [PB, EB] := by
  refine callsD_of_wpS Try.func59 rfl fun c₀ cs hu => ?_
  apply wpS_seq
  apply wpS_region
  simp [wpOpsS, go_sem, recoverD, hu, Try.ntmps59, Exit.thenS]
  refine wpS_of_wp ?_
  have ht : #[Value.pointer (some ⟨PB, 0, none⟩), Value.pointer (some ⟨EB, 0, none⟩)] ++
          ((Array.replicate 17 undef).setIfInBounds 3 (Value.iface 102 (Value.agg #[Value.int IntKind.i64 x]))).setIfInBounds 0 (Value.iface 102 (Value.agg #[Value.int IntKind.i64 x]))
      = #[.pointer (some ⟨PB, 0, none⟩), .pointer (some ⟨EB, 0, none⟩), .iface 102 (.agg #[.int .i64 x]), undef, undef, .iface 102 (.agg #[.int .i64 x]), undef, undef, undef, undef, undef, undef, undef, undef, undef, undef, undef, undef, undef] := by kernel_rfl
  rw [ht]
  clear ht
  have ha := assert_fault x
  have hpl : PB < w.heap.size := (Array.getElem?_eq_some_iff.1 hp).1
  have hel : EB < w.heap.size := (Array.getElem?_eq_some_iff.1 he).1
  have HP : Hid (w.heap[PB]? = some (.cells #[v0, v1] 27)) := hp
  have HE : Hid (w.heap[EB]? = some (.cells #[z] 30)) := he
  clear hp he
  go_wp2_with fail
  obtain ⟨W1, hW1⟩ : ∃ W1, W1 = w.alloc (.cells #[.int .i64 x] 102) := ⟨_, rfl⟩
  rw [← hW1]
  have g1 : w.grownBy W1 none := by rw [hW1]; exact World.grownBy_alloc _ _ _
  have p1 : W1.heap[PB]? = some (.cells #[v0, v1] 27) := by rw [g1.block PB hpl (by simp)]; exact HP.out
  have e1 : W1.heap[EB]? = some (.cells #[z] 30) := by rw [g1.block EB hel (by simp)]; exact HE.out
  have q1 : W1.heap[w.heap.size]? = some (.cells #[.int .i64 x] 102) := by rw [hW1]; exact heap_alloc_new w _
  have HG : Hid (w.grownBy W1 none) := g1
  have HP1 : Hid (W1.heap[PB]? = some (.cells #[v0, v1] 27)) := p1
  have HE1 : Hid (W1.heap[EB]? = some (.cells #[z] 30)) := e1
  have c0 : W1.cell? ⟨PB, 0, none⟩ = some v0 := rcell p1 0
  have c1 : W1.cell? ⟨PB, 1, none⟩ = some v1 := rcell p1 1
  have c2 : W1.cell? ⟨EB, 0, none⟩ = some z := rcell e1 0
  have c3 : W1.cell? ⟨w.heap.size, 0, none⟩ = some (.int .i64 x) := rcell q1 0
  have f0 : W1.frozen? ⟨PB, 0, none⟩ = false := rfrozen p1 0
  have f1 : W1.frozen? ⟨PB, 1, none⟩ = false := rfrozen p1 1
  have f2 : W1.frozen? ⟨EB, 0, none⟩ = false := rfrozen e1 0
  have n1 : PB ≠ w.heap.size := by omega
  have n2 : EB ≠ w.heap.size := by omega
  clear hW1 g1 p1 e1 q1 HP HE ha
  generalize w.heap.size = FB at *
  go_region
  have P2 := rset (rset HP1.out 0 (.slice none 0 0)) 1 (.slice none 0 0)
  have E2 : ((W1.setCell ⟨PB, 0, none⟩ (.slice none 0 0)).setCell ⟨PB, 1, none⟩ (.slice none 0 0)).heap[EB]? = some (.cells #[z] 30) := by
    rw [(grown_setCell _ PB 1 (.slice none 0 0)).block EB (by simp; exact (Array.getElem?_eq_some_iff.1 HE1.out).1) (by simp; omega), (grown_setCell W1 PB 0 (.slice none 0 0)).block EB (Array.getElem?_eq_some_iff.1 HE1.out).1 (by simp; omega)]
    exact HE1.out
  have E3 := rset E2 0 (.int .i64 x)
  have P3 : (((W1.setCell ⟨PB, 0, none⟩ (.slice none 0 0)).setCell ⟨PB, 1, none⟩ (.slice none 0 0)).setCell ⟨EB, 0, none⟩ (.int .i64 x)).heap[PB]? = some (.cells #[.slice none 0 0, .slice none 0 0] 27) := by
    rw [(grown_setCell _ EB 0 (.int .i64 x)).block PB (Array.getElem?_eq_some_iff.1 P2).1 (by simp; omega)]
    exact P2
  have G3 : Ch w (((W1.setCell ⟨PB, 0, none⟩ (.slice none 0 0)).setCell ⟨PB, 1, none⟩ (.slice none 0 0)).setCell ⟨EB, 0, none⟩ (.int .i64 x)).drew [PB, EB] := ((((Ch.of HG.out).trans (Ch.one (grown_setCell W1 PB 0 (.slice none 0 0)) (by simp))).trans (Ch.one (grown_setCell _ PB 1 (.slice none 0 0)) (by simp))).trans (Ch.one (grown_setCell _ EB 0 (.int .i64 x)) (by simp))).trans (Ch.of (grown_drew (World.grownBy.refl _ none)))
  clear c0 c1 c2 c3 f0 f1 f2 HP1 HE1 HG P2 E2
  generalize (((W1.setCell ⟨PB, 0, none⟩ (.slice none 0 0)).setCell ⟨PB, 1, none⟩ (.slice none 0 0)).setCell ⟨EB, 0, none⟩ (.int .i64 x)) = W9 at *
  change bodyPostS _ _ _ _ _ _ _ _ W9.drew
  simp [bodyPostS, results, Try.results59]
  exact ⟨P3, E3, G3⟩
/-- where raw.read begins -/
def rdW8 (w : World) (v : Value) : World := ((w.alloc (.cells #[.slice none 0 0, .slice none 0 0] 27)).alloc (.cells #[.int .i64 0] 30)).alloc (.cells #[v, .int .i64 0, .int .i64 0] 106)
theorem rdW8_ok (w : World) (a : Option Addr) (c : Nat) (L : List Int) (h : Lf w a c L) : Rd w.heap.size (rdW8 w (.slice a L.length c)) (w.heap.size + 1 + 1) L 0 0 ∧ (rdW8 w (.slice a L.length c)).heap[w.heap.size]? = some (.cells #[.slice none 0 0, .slice none 0 0] 27) ∧ (rdW8 w (.slice a L.length c)).heap[w.heap.size + 1]? = some (.cells #[.int .i64 0] 30) ∧ w.grownBy (rdW8 w (.slice a L.length c)) none := by
  have g1 := World.grownBy_alloc w (.cells #[.slice none 0 0, .slice none 0 0] 27) none
  have g2 := World.grownBy_alloc (w.alloc (.cells #[.slice none 0 0, .slice none 0 0] 27)) (.cells #[.int .i64 0] 30) none
  have g3 := World.grownBy_alloc ((w.alloc (.cells #[.slice none 0 0, .slice none 0 0] 27)).alloc (.cells #[.int .i64 0] 30)) (.cells #[.slice a L.length c, .int .i64 0, .int .i64 0] 106) none
  have gg : w.grownBy (rdW8 w (.slice a L.length c)) none := grown_trans g1 (grown_trans g2 g3)
  have h1 : (w.alloc (.cells #[.slice none 0 0, .slice none 0 0] 27)).heap[w.heap.size]? = some (.cells #[.slice none 0 0, .slice none 0 0] 27) := heap_alloc_new w _
  have h2 : ((w.alloc (.cells #[.slice none 0 0, .slice none 0 0] 27)).alloc (.cells #[.int .i64 0] 30)).heap[w.heap.size + 1]? = some (.cells #[.int .i64 0] 30) := by
    have := heap_alloc_new (w.alloc (.cells #[.slice none 0 0, .slice none 0 0] 27)) (.cells #[.int .i64 0] 30)
    simpa using this
  have h3 : (rdW8 w (.slice a L.length c)).heap[w.heap.size + 1 + 1]? = some (.cells #[.slice a L.length c, .int .i64 0, .int .i64 0] 106) := by
    have := heap_alloc_new ((w.alloc (.cells #[.slice none 0 0, .slice none 0 0] 27)).alloc (.cells #[.int .i64 0] 30)) (.cells #[.slice a L.length c, .int .i64 0, .int .i64 0] 106)
    simpa [rdW8] using this
  refine ⟨⟨a, c, h3, h.kept gg (by simp), fun g off s e => ?_⟩, ?_, ?_, gg⟩
  · have := (h.lie g off s e).2.1
    exact ⟨by omega, this⟩
  · have := (grown_trans g2 g3).block w.heap.size (Array.getElem?_eq_some_iff.1 h1).1 (by simp)
    exact this.trans h1
  · exact (g3.block _ (Array.getElem?_eq_some_iff.1 h2).1 (by simp)).trans h2
set_option maxRecDepth 100000 in
set_option maxHeartbeats 4000000 in
theorem read_more {w : World} {a : Option Addr} {c : Nat} {L R : List Int} {v0 v1 : Value} {n d : Nat} (h : Lf w a c L) (hR : R ≠ []) (hs0 : ∃ a c n, v0 = .slice a n c) (hs1 : ∃ a c n, v1 = .slice a n c)
    (hP : Calls Try.prog 60 #[.pointer (some ⟨w.heap.size + 1 + 1, 0, none⟩)] (rdW8 w (.slice a L.length c)) fun e w' => e = .returned (.agg #[v0, v1]) ∧ Rd w.heap.size w' (w.heap.size + 1 + 1) R n d ∧ (rdW8 w (.slice a L.length c)).grownBy w' (some (w.heap.size + 1 + 1))) :
    Calls Try.prog 33 #[.slice a L.length c] w fun e w' => e = .returned (.tuple #[.agg #[.slice none 0 0, .slice none 0 0], .int .i64 84]) ∧ w.grownBy w' none := by
  obtain ⟨a0, c0, n0, rfl⟩ := hs0
  obtain ⟨a1, c1, n1, rfl⟩ := hs1
  have hmf : ∀ (fn : Fn) (first cap : Array Value) (w : World), (Instr.makeFunc fn first cap).run Try.prog w = .ok (.func fn first cap) w := fun _ _ _ _ => rfl
  obtain ⟨q1, q2, q3, q4⟩ := rdW8_ok w a c L h
  have HP : Hid (Calls Try.prog 60 #[.pointer (some ⟨w.heap.size + 1 + 1, 0, none⟩)] (rdW8 w (.slice a L.length c)) fun e w' => e = .returned (.agg #[.slice a0 n0 c0, .slice a1 n1 c1]) ∧ Rd w.heap.size w' (w.heap.size + 1 + 1) R n d ∧ (rdW8 w (.slice a L.length c)).grownBy w' (some (w.heap.size + 1 + 1))) := hP
  have Q2 : Hid ((rdW8 w (.slice a L.length c)).heap[w.heap.size]? = some (.cells #[.slice none 0 0, .slice none 0 0] 27)) := q2
  have Q3 : Hid ((rdW8 w (.slice a L.length c)).heap[w.heap.size + 1]? = some (.cells #[.int .i64 0] 30)) := q3
  have Q4 : Hid (w.grownBy (rdW8 w (.slice a L.length c)) none) := q4
  have hrl : 0 < R.length := List.length_pos_iff.2 hR
  have hz : 0 < (R.length : Int) := by omega
  have hz' : decide (0 < (R.length : Int)) = true := decide_eq_true hz
  clear hP q1 q2 q3 q4 h hR
  go_enter_defers Try.func33, Try.ntmps33
  go_wp2_with fail
  refine Calls.mono HP.out ?_
  rintro e w1 ⟨rfl, h1, g1⟩
  have P1 : w1.heap[w.heap.size]? = some (.cells #[.slice none 0 0, .slice none 0 0] 27) := (g1.block _ (Array.getElem?_eq_some_iff.1 Q2.out).1 (by simp; omega)).trans Q2.out
  have E1 : w1.heap[w.heap.size + 1]? = some (.cells #[.int .i64 0] 30) := (g1.block _ (Array.getElem?_eq_some_iff.1 Q3.out).1 (by simp)).trans Q3.out
  have G1 : Ch w w1 [] := Ch.new (Ch.of Q4.out) (by omega) g1
  have m0 : w1.cell? ⟨w.heap.size, 0, none⟩ = some (.slice none 0 0) := rcell P1 0
  have m1 : w1.cell? ⟨w.heap.size, 1, none⟩ = some (.slice none 0 0) := rcell P1 1
  have k0 : w1.frozen? ⟨w.heap.size, 0, none⟩ = false := rfrozen P1 0
  have k1 : w1.frozen? ⟨w.heap.size, 1, none⟩ = false := rfrozen P1 1
  have P2 := rset (rset P1 0 (.slice a0 n0 c0)) 1 (.slice a1 n1 c1)
  have E2 : ((w1.setCell ⟨w.heap.size, 0, none⟩ (.slice a0 n0 c0)).setCell ⟨w.heap.size, 1, none⟩ (.slice a1 n1 c1)).heap[w.heap.size + 1]? = some (.cells #[.int .i64 0] 30) := by
    rw [(grown_setCell _ w.heap.size 1 (.slice a1 n1 c1)).block _ (by simp; exact (Array.getElem?_eq_some_iff.1 E1).1) (by simp), (grown_setCell w1 w.heap.size 0 (.slice a0 n0 c0)).block _ (Array.getElem?_eq_some_iff.1 E1).1 (by simp)]
    exact E1
  have h2 := (h1.kept (grown_setCell w1 w.heap.size 0 (.slice a0 n0 c0)) (Nat.le_refl _) (by omega)).kept (grown_setCell _ w.heap.size 1 (.slice a1 n1 c1)) (Nat.le_refl _) (by omega)
  have G2 := (G1.new (Nat.le_refl _) (grown_setCell w1 w.heap.size 0 (.slice a0 n0 c0))).new (Nat.le_refl _) (grown_setCell _ w.heap.size 1 (.slice a1 n1 c1))
  have HH : Hid (((w1.setCell ⟨w.heap.size, 0, none⟩ (.slice a0 n0 c0)).setCell ⟨w.heap.size, 1, none⟩ (.slice a1 n1 c1)).heap[w.heap.size]? = some (.cells #[.slice a0 n0 c0, .slice a1 n1 c1] 27) ∧ ((w1.setCell ⟨w.heap.size, 0, none⟩ (.slice a0 n0 c0)).setCell ⟨w.heap.size, 1, none⟩ (.slice a1 n1 c1)).heap[w.heap.size + 1]? = some (.cells #[.int .i64 0] 30) ∧ Ch w ((w1.setCell ⟨w.heap.size, 0, none⟩ (.slice a0 n0 c0)).setCell ⟨w.heap.size, 1, none⟩ (.slice a1 n1 c1)) []) := ⟨P2, E2, G2⟩
  obtain ⟨b, k, h3, h4, h5⟩ := h2
  have r0 : ((w1.setCell ⟨w.heap.size, 0, none⟩ (.slice a0 n0 c0)).setCell ⟨w.heap.size, 1, none⟩ (.slice a1 n1 c1)).cell? ⟨w.heap.size + 1 + 1, 0, none⟩ = some (.slice b R.length k) := rcell h3 0
  clear h1 g1 P1 E1 G1 P2 E2 G2 h3 h4 h5 HP
  go_wp2
  refine leaves_cons (f := 59) (args := #[.pointer (some ⟨w.heap.size, 0, none⟩), .pointer (some ⟨w.heap.size + 1, 0, none⟩)]) (by simp) (by simp [go_sem]) ?_
  obtain ⟨P2, E2, G2⟩ := HH.out
  refine (fault_caught w.heap.size (w.heap.size + 1) 84 _ _ _ [] _ P2 E2 (by omega)).mono ?_
  rintro e u' w3 ⟨rfl, rfl, P3, E3, G3⟩
  have x0 : w3.cell? ⟨w.heap.size, 0, none⟩ = some (.slice none 0 0) := rcell P3 0
  have x1 : w3.cell? ⟨w.heap.size, 1, none⟩ = some (.slice none 0 0) := rcell P3 1
  have x2 : w3.cell? ⟨w.heap.size + 1, 0, none⟩ = some (.int .i64 84) := rcell E3 0
  have GG : w.grownBy w3 none := ((G2.mono (l' := [w.heap.size, w.heap.size + 1]) (by simp)).trans G3).nil (by simp)
  clear HH P2 E2 G2 P3 E3 G3 m0 m1 k0 k1 r0
  simp [Leaves, settle, results, Try.results33, go_sem, x0, x1, x2, GG]
set_option maxRecDepth 100000 in
set_option maxHeartbeats 4000000 in
theorem decode_of {w : World} {v : Value} {u0 u1 : Value} {E : Int} (hs0 : ∃ a c n, u0 = .slice a n c) (hs1 : ∃ a c n, u1 = .slice a n c)
    (h : ∀ W, w.grownBy W none → Calls Try.prog 33 #[v] W fun e w' => e = .returned (.tuple #[.agg #[u0, u1], .int .i64 E]) ∧ W.grownBy w' none) :
    Calls Try.prog 17 #[v] w fun e w' => e = .returned (.tuple #[.agg #[u0, u1], .int .i64 E]) ∧ w.grownBy w' none := by
  obtain ⟨a0, c0, n0, rfl⟩ := hs0
  obtain ⟨a1, c1, n1, rfl⟩ := hs1
  have g1 := World.grownBy_alloc w (.cells #[.slice none 0 0, .slice none 0 0] 27) none
  have HC : Hid (Calls Try.prog 33 #[v] (w.alloc (.cells #[.slice none 0 0, .slice none 0 0] 27)) fun e w' => e = .returned (.tuple #[.agg #[.slice a0 n0 c0, .slice a1 n1 c1], .int .i64 E]) ∧ (w.alloc (.cells #[.slice none 0 0, .slice none 0 0] 27)).grownBy w' none) := h _ g1
  have HP : Hid ((w.alloc (.cells #[.slice none 0 0, .slice none 0 0] 27)).heap[w.heap.size]? = some (.cells #[.slice none 0 0, .slice none 0 0] 27)) := heap_alloc_new w _
  have HG : Hid (w.grownBy (w.alloc (.cells #[.slice none 0 0, .slice none 0 0] 27)) none) := g1
  clear h g1
  go_enter Try.func17, Try.ntmps17
  go_wp2_with (go_at_call 33; refine HC.out.mono ?_; rintro e w4 ⟨rfl, g4⟩; have P4 : Hid (w4.heap[w.heap.size]? = some (.cells #[.slice none 0 0, .slice none 0 0] 27)) := ((g4.block _ (Array.getElem?_eq_some_iff.1 HP.out).1 (by simp)).trans HP.out); have G4 : Hid (w.grownBy w4 none) := grown_trans HG.out g4; have m0 : w4.cell? ⟨w.heap.size, 0, none⟩ = some (.slice none 0 0) := rcell P4.out 0; have m1 : w4.cell? ⟨w.heap.size, 1, none⟩ = some (.slice none 0 0) := rcell P4.out 1; have k0 : w4.frozen? ⟨w.heap.size, 0, none⟩ = false := rfrozen P4.out 0; have k1 : w4.frozen? ⟨w.heap.size, 1, none⟩ = false := rfrozen P4.out 1; clear g4 HC)
  have P5 := rset (rset P4.out 0 (.slice a0 n0 c0)) 1 (.slice a1 n1 c1)
  have G5 := ((Ch.of (l := []) G4.out).new (Nat.le_refl _) (grown_setCell w4 w.heap.size 0 (.slice a0 n0 c0))).new (Nat.le_refl _) (grown_setCell _ w.heap.size 1 (.slice a1 n1 c1))
  clear m0 m1 k0 k1
  generalize ((w4.setCell ⟨w.heap.size, 0, none⟩ (.slice a0 n0 c0)).setCell ⟨w.heap.size, 1, none⟩ (.slice a1 n1 c1)) = W5 at *
  have x0 : W5.cell? ⟨w.heap.size, 0, none⟩ = some (.slice a0 n0 c0) := rcell P5 0
  have x1 : W5.cell? ⟨w.heap.size, 1, none⟩ = some (.slice a1 n1 c1) := rcell P5 1
  refine bodyPost_ret (by simp [results, Try.results17, go_sem, x0, x1]; try rfl) rfl ?_
  exact ⟨rfl, G5.nil (by simp)⟩
theorem decode_more {w : World} {a : Option Addr} {c : Nat} {R : List Int} (h : Lf w a c (0 :: 0 :: R)) (hR : R ≠ []) :
    Calls Try.prog 17 #[.slice a (0 :: 0 :: R : List Int).length c] w fun e w' => e = .returned (.tuple #[.agg #[.slice none 0 0, .slice none 0 0], .int .i64 84]) ∧ w.grownBy w' none :=
  decode_of ⟨_, _, _, rfl⟩ ⟨_, _, _, rfl⟩ fun W g => read_more (h.kept g (by simp)) hR ⟨_, _, _, rfl⟩ ⟨_, _, _, rfl⟩ (program_nought (rdW8_ok W a c (0 :: 0 :: R) (h.kept g (by simp))).1 (rdW8_ok W a c (0 :: 0 :: R) (h.kept g (by simp))).2.2.2.size)
theorem decode_wake {w : World} {a : Option Addr} {c : Nat} (h : Lf w a c [0, 0, 0]) :
    Calls Try.prog 17 #[.slice a 3 c] w fun e w' => e = .returned (.tuple #[.agg #[.slice none 0 0, .slice none 0 0], .int .i64 84]) ∧ w.grownBy w' none := by
  have := decode_more h (by simp)
  rw [show (0 :: 0 :: [0] : List Int).length = 3 from rfl] at this
  exact this
end Go.Proofs.Ytljdjkiejppenaa
