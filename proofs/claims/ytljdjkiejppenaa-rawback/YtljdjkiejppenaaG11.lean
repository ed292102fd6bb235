/- What a program's weight says of its bytes, its nodes, its depth. -/
import Derived.Test.YtljdjkiejppenaaG9
import Derived.Test.YtljdjkiejppenaaG10
import Derived.Test.YtljdjkiejppenaaPgW2
namespace Go.Proofs.Ytljdjkiejppenaa
open Go.RowKit
set_option linter.unusedVariables false

/-- the numbers in it are of 64 bits -/
inductive ExR : Pg.Ex → Prop
  | mk {op t n : Int} {s : ByteArray} {args : List Pg.Ex} (rg : R64 n) (all : ∀ y, y ∈ args → ExR y) : ExR (.mk op t n s args)
inductive StR : Pg.St → Prop
  | mk {op n : Int} {args : List Pg.Ex} {dst : List Int} {a b : List Pg.St} (rg : R64 n) (h1 : ∀ y, y ∈ args → ExR y) (h2 : ∀ y, y ∈ a → StR y) (h3 : ∀ y, y ∈ b → StR y) : StR (.mk op n args dst a b)
theorem ExAt.rr {B : Nat → Prop} {W : World} : ∀ {b o : Nat} {x : Pg.Ex}, ExAt B W b o x → ExR x
  | _, _, _, .mk c0 c1 c2 c3 c4 rg sz nil le max fits pl all => .mk rg fun y hy => by
    obtain ⟨i, hi⟩ := List.getElem?_of_mem hy
    exact ExAt.rr (all i y hi)
theorem ExL.rr {B : Nat → Prop} {W : World} {a : Option Addr} {c : Nat} {l : List Pg.Ex} (h : ExL B W a c l) : ∀ y, y ∈ l → ExR y := fun y hy => by
  rcases h.lie with h0 | ⟨b, o, _, _, hx⟩
  · rw [h0] at hy; simp at hy
  · obtain ⟨i, hi⟩ := List.getElem?_of_mem hy
    exact (hx i y hi).rr
theorem StAt.rr {B : Nat → Prop} {W : World} : ∀ {b o : Nat} {x : Pg.St}, StAt B W b o x → StR x
  | _, _, _, .mk c0 c1 c2 c3 c4 c5 rg h1 h2 n3 l3 m3 f3 p3 q3 n4 l4 m4 f4 p4 q4 => .mk rg h1.rr (fun y hy => by
    obtain ⟨i, hi⟩ := List.getElem?_of_mem hy
    exact StAt.rr (q3 i y hi)) (fun y hy => by
    obtain ⟨i, hi⟩ := List.getElem?_of_mem hy
    exact StAt.rr (q4 i y hi))
theorem StL.rr {B : Nat → Prop} {W : World} {a : Option Addr} {c : Nat} {l : List Pg.St} (h : StL B W a c l) : ∀ y, y ∈ l → StR y := fun y hy => by
  rcases h.lie with h0 | ⟨b, o, _, _, hx⟩
  · rw [h0] at hy; simp at hy
  · obtain ⟨i, hi⟩ := List.getElem?_of_mem hy
    exact (hx i y hi).rr
theorem FnL.rr {B : Nat → Prop} {W : World} {a : Option Addr} {c : Nat} {l : List Pg.Fn} (h : FnL B W a c l) : ∀ f, f ∈ l → ∀ y, y ∈ f.body → StR y := fun f hf => by
  rcases h.lie with h0 | ⟨b, o, _, _, hx⟩
  · rw [h0] at hf; simp at hf
  · obtain ⟨i, hi⟩ := List.getElem?_of_mem hf
    obtain ⟨_, _, _, _, _, _, he⟩ := hx i f hi
    exact he.b.rr
namespace Pg
theorem cnt_may (n : Int) : (dCnt n).may = okB n := rfl
theorem cnt_len (n : Int) : (dCnt n).en.length ≤ 5 := by
  unfold dCnt
  by_cases h : okB n = true
  · simp only [h, if_true]
    refine grp_len 4 _ ?_
    have : 0 ≤ n ∧ n < 2147483648 := by simpa [okB] using h
    have h2 : (2147483648 : Nat) ≤ 128 ^ 5 := by decide
    omega
  · simp [h]
theorem num_len {n : Int} (h : R64 n) : (dNum n).en.length ≤ 10 := by
  refine grp_len 9 _ ?_
  have := zig_lt h
  have h2 : (18446744073709551616 : Nat) ≤ 128 ^ 10 := by decide
  omega
theorem txt_en (s : ByteArray) : (dTxt s).en.length ≤ 258 := by
  unfold dTxt
  by_cases h : s.size ≤ 256
  · rw [if_pos h, List.length_append, txt_len]
    have := grp_len 1 s.size (by have : (128 : Nat) ^ 2 = 16384 := by decide
                                 omega)
    omega
  · rw [if_neg h]; simp
theorem nums_en (l : List Int) : (dNumL l).en.length ≤ 5 + 5 * l.length := by
  have h1 := cnt_len (l.length : Int)
  have h2 : ∀ l : List Int, (dNums l).en.length ≤ 5 * l.length := by
    intro l
    induction l with
    | nil => simp [dNums, Dl.nil]
    | cons n l ih => have := cnt_len n; simp only [dNums, Dl.app, List.length_append, List.length_cons]; omega
  have := h2 l
  simp only [dNumL, Dl.app, List.length_append]
  omega
theorem nums_may {l : List Int} (h : l.length < 2147483648) : (dNumL l).may = l.all okB := by
  have h2 : ∀ l : List Int, (dNums l).may = l.all okB := by
    intro l
    induction l with
    | nil => rfl
    | cons n l ih => simp only [dNums, Dl.app, ih, List.all_cons]; rfl
  have h1 : okB (l.length : Int) = true := by simp [okB]; omega
  simp only [dNumL, Dl.app, h2]
  rw [cnt_may (l.length : Int), h1, Bool.true_and]
/-- what is said of a part -/
def Bd (d : Dl) (w : Int) (may : Bool) : Prop := 0 ≤ w ∧ (d.nd : Int) ≤ w ∧ d.dp ≤ d.nd ∧ (d.en.length : Int) ≤ 300 * w ∧ (w ≤ 1000000 → d.may = may)
theorem es_bd : ∀ l : List Ex, (∀ y, y ∈ l → Bd y.dl y.w y.may ∧ 1 ≤ y.w) → Bd (dCat Ex.dl l) (wEs l) (l.all Ex.may) ∧ (l.length : Int) ≤ wEs l
  | [], _ => ⟨⟨by simp [wEs], by simp [dCat, Dl.nil, wEs], by simp [dCat, Dl.nil], by simp [dCat, Dl.nil, wEs], fun _ => rfl⟩, by simp [wEs]⟩
  | x :: l, h => by
    obtain ⟨⟨a1, a2, a3, a4, a5⟩, a6⟩ := h x (by simp)
    obtain ⟨⟨b1, b2, b3, b4, b5⟩, b6⟩ := es_bd l (fun y hy => h y (by simp [hy]))
    refine ⟨⟨?_, ?_, ?_, ?_, fun hw => ?_⟩, ?_⟩
    · simp only [wEs]; omega
    · simp only [wEs, dCat, Dl.app]; omega
    · simp only [dCat, Dl.app]; omega
    · simp only [wEs, dCat, Dl.app, List.length_append]; omega
    · simp only [wEs] at hw
      simp only [dCat, Dl.app, List.all_cons, a5 (by omega), b5 (by omega)]
    · simp only [wEs, List.length_cons]; omega
theorem ex_bd (x : Ex) : ExR x → Bd x.dl x.w x.may ∧ 1 ≤ x.w := by
  refine Ex.ind (P := fun x => ExR x → Bd x.dl x.w x.may ∧ 1 ≤ x.w) ?_ x
  intro op t n s args ih hr
  cases hr with
  | mk rg all =>
    obtain ⟨⟨b1, b2, b3, b4, b5⟩, b6⟩ := es_bd args (fun y hy => ih y hy (all y hy))
    have e := Ex.dl_eq (.mk op t n s args)
    have hw := Ex.w_eq (.mk op t n s args)
    have hm := Ex.may_eq (.mk op t n s args)
    have nd := Ex.nd_eq (.mk op t n s args)
    simp only [Ex.op, Ex.t, Ex.n, Ex.s, Ex.args] at e hw hm nd
    have hs : 0 ≤ (s.size : Int) / 16 := by omega
    refine ⟨⟨by omega, by omega, by omega, ?_, fun h => ?_⟩, by omega⟩
    · have q1 := cnt_len op
      have q2 := cnt_len t
      have q3 := num_len rg
      have q4 := txt_en s
      have q5 := cnt_len (args.length : Int)
      rw [e]
      simp only [Dl.node, Dl.app, List.length_append, dExL, dEs_cat]
      omega
    · rw [e, hm]
      have q5 : okB (args.length : Int) = true := by simp [okB]; omega
      simp only [Dl.node, Dl.app, dExL, dEs_cat, b5 (by omega)]
      rw [cnt_may (args.length : Int), q5, cnt_may op, cnt_may t, show (dNum n).may = true from rfl]
      have ht : (dTxt s).may = decide ((s.size : Int) ≤ 256) := by
        unfold dTxt
        by_cases h : s.size ≤ 256
        · rw [if_pos h]; exact (decide_eq_true (by omega)).symm
        · rw [if_neg h]; exact (decide_eq_false (by omega)).symm
      rw [ht]
      by_cases h256 : (s.size : Int) ≤ 256
      · have e1 : ∀ {i : Decidable ((s.size : Int) ≤ 256)}, @decide ((s.size : Int) ≤ 256) i = true := fun {i} => @decide_eq_true _ i h256
        simp only [e1]
        cases okB op <;> cases okB t <;> cases (args.all Ex.may) <;> first | rfl | (simp; exact decide_eq_true h256)
      · have e1 : ∀ {i : Decidable ((s.size : Int) ≤ 256)}, @decide ((s.size : Int) ≤ 256) i = false := fun {i} => @decide_eq_false _ i h256
        simp only [e1]
        cases okB op <;> cases okB t <;> cases (args.all Ex.may) <;> first | rfl | (simp; exact decide_eq_false h256)
theorem ss_bd : ∀ l : List St, (∀ y, y ∈ l → Bd y.dl y.w y.may ∧ 1 ≤ y.w) → Bd (dCat St.dl l) (wSs l) (l.all St.may) ∧ (l.length : Int) ≤ wSs l
  | [], _ => ⟨⟨by simp [wSs], by simp [dCat, Dl.nil, wSs], by simp [dCat, Dl.nil], by simp [dCat, Dl.nil, wSs], fun _ => rfl⟩, by simp [wSs]⟩
  | x :: l, h => by
    obtain ⟨⟨a1, a2, a3, a4, a5⟩, a6⟩ := h x (by simp)
    obtain ⟨⟨b1, b2, b3, b4, b5⟩, b6⟩ := ss_bd l (fun y hy => h y (by simp [hy]))
    refine ⟨⟨?_, ?_, ?_, ?_, fun hw => ?_⟩, ?_⟩
    · simp only [wSs]; omega
    · simp only [wSs, dCat, Dl.app]; omega
    · simp only [dCat, Dl.app]; omega
    · simp only [wSs, dCat, Dl.app, List.length_append]; omega
    · simp only [wSs] at hw
      simp only [dCat, Dl.app, List.all_cons, a5 (by omega), b5 (by omega)]
    · simp only [wSs, List.length_cons]; omega
theorem okL {n : Nat} (h : (n : Int) ≤ 1000000) : okB (n : Int) = true := by simp [okB]; omega
theorem st_bd (x : St) : StR x → Bd x.dl x.w x.may ∧ 1 ≤ x.w := by
  refine St.ind (P := fun x => StR x → Bd x.dl x.w x.may ∧ 1 ≤ x.w) ?_ x
  intro op n args dst a b ia ib hr
  cases hr with
  | mk rg h1 h2 h3 =>
    obtain ⟨⟨b1, b2, b3, b4, b5⟩, b6⟩ := es_bd args (fun y hy => ex_bd y (h1 y hy))
    obtain ⟨⟨c1, c2, c3, c4, c5⟩, c6⟩ := ss_bd a (fun y hy => ia y hy (h2 y hy))
    obtain ⟨⟨d1, d2, d3, d4, d5⟩, d6⟩ := ss_bd b (fun y hy => ib y hy (h3 y hy))
    have e := St.dl_eq (.mk op n args dst a b)
    have hw := St.w_eq (.mk op n args dst a b)
    have hm := St.may_eq (.mk op n args dst a b)
    have nd := St.nd_eq (.mk op n args dst a b)
    simp only [St.op, St.n, St.args, St.dst, St.a, St.b] at e hw hm nd
    refine ⟨⟨by omega, by omega, by omega, ?_, fun h => ?_⟩, by omega⟩
    · have q1 := cnt_len op
      have q3 := num_len rg
      have q4 := nums_en dst
      have q5 := cnt_len (args.length : Int)
      have q6 := cnt_len (a.length : Int)
      have q7 := cnt_len (b.length : Int)
      rw [e]
      simp only [Dl.node, Dl.app, List.length_append, dExL, dEs_cat, dStL, dSs_cat]
      omega
    · rw [e, hm]
      simp only [Dl.node, Dl.app, dExL, dEs_cat, dStL, dSs_cat, b5 (by omega), c5 (by omega), d5 (by omega), nums_may (l := dst) (by omega)]
      rw [cnt_may (args.length : Int), okL (by omega), cnt_may (a.length : Int), okL (by omega), cnt_may (b.length : Int), okL (by omega), cnt_may op, show (dNum n).may = true from rfl]
      cases okB op <;> cases (args.all Ex.may) <;> cases (dst.all okB) <;> simp
theorem ts_bd : ∀ l : List Tp, 0 ≤ wTs l ∧ ((dCat Tp.dl l).en.length : Int) ≤ 300 * (wTs l + l.length) ∧ (wTs l ≤ 1000000 → (dCat Tp.dl l).may = l.all Tp.may)
  | [] => ⟨by simp [wTs], by simp [dCat, Dl.nil, wTs], fun _ => rfl⟩
  | x :: l => by
    obtain ⟨a1, a2, a3⟩ := ts_bd l
    have q1 := cnt_len x.kind
    have q2 := cnt_len x.elem
    have q3 := cnt_len x.n
    have q4 := nums_en x.fields
    refine ⟨by simp only [wTs]; omega, ?_, fun h => ?_⟩
    · simp only [wTs, dCat, Dl.app, Tp.dl, List.length_append, List.length_cons]; omega
    · simp only [wTs] at h
      simp only [dCat, Dl.app, Tp.dl, List.all_cons, Tp.may, a3 (by omega), nums_may (l := x.fields) (by omega)]
      rfl
theorem fs_bd : ∀ l : List Fn, (∀ f, f ∈ l → ∀ y, y ∈ f.body → StR y) → 0 ≤ wFs l ∧ ((dCat Fn.dl l).nd : Int) ≤ wFs l ∧ (dCat Fn.dl l).dp ≤ (dCat Fn.dl l).nd ∧ ((dCat Fn.dl l).en.length : Int) ≤ 300 * (wFs l + l.length) ∧ (wFs l ≤ 1000000 → (dCat Fn.dl l).may = l.all Fn.may)
  | [], _ => ⟨by simp [wFs], by simp [dCat, Dl.nil, wFs], by simp [dCat, Dl.nil], by simp [dCat, Dl.nil, wFs], fun _ => rfl⟩
  | x :: l, h => by
    obtain ⟨a1, a2, a3, a4, a5⟩ := fs_bd l (fun f hf => h f (by simp [hf]))
    obtain ⟨⟨b1, b2, b3, b4, b5⟩, b6⟩ := ss_bd x.body (fun y hy => st_bd y (h x (by simp) y hy))
    have q1 := cnt_len x.params
    have q2 := nums_en x.locals
    have q3 := nums_en x.results
    have q4 := cnt_len (x.body.length : Int)
    have nd := Fn.nd_eq x
    refine ⟨by simp only [wFs, Fn.w]; omega, ?_, ?_, ?_, fun h => ?_⟩
    · simp only [wFs, Fn.w, dCat, Dl.app]; omega
    · simp only [dCat, Dl.app]; omega
    · simp only [wFs, Fn.w, dCat, Dl.app, Fn.dl, List.length_append, List.length_cons, dStL, dSs_cat]; omega
    · simp only [wFs, Fn.w] at h
      simp only [dCat, Dl.app, Fn.dl, List.all_cons, Fn.may, a5 (by omega), nums_may (l := x.locals) (by omega), nums_may (l := x.results) (by omega), dStL, dSs_cat, b5 (by omega)]
      rw [cnt_may (x.body.length : Int), okL (by omega), cnt_may x.params, Bool.true_and]
theorem pr_bd (p : Pr) (h : ∀ f, f ∈ p.funcs → ∀ y, y ∈ f.body → StR y) (hw : p.w ≤ 1000000) : p.dl.nd ≤ 1000000 ∧ p.dl.dp ≤ p.dl.nd ∧ p.dl.en.length ≤ 600000020 ∧ p.dl.may = p.may := by
  obtain ⟨a1, a2, a3⟩ := ts_bd p.types
  obtain ⟨b1, b2, b3, b4, b5⟩ := fs_bd p.funcs h
  have nd := Pr.nd_eq p
  have q1 := cnt_len (p.types.length : Int)
  have q2 := cnt_len (p.funcs.length : Int)
  unfold Pr.w at hw
  refine ⟨by omega, by omega, ?_, ?_⟩
  · simp only [Pr.dl, Dl.app, List.length_append, dTs_cat, dFs_cat]; omega
  · simp only [Pr.dl, Dl.app, dTs_cat, dFs_cat, Pr.may, a3 (by omega), b5 (by omega)]
    rw [cnt_may (p.types.length : Int), okL (by omega), cnt_may (p.funcs.length : Int), okL (by omega), Bool.true_and, Bool.true_and]
theorem pr_err (p : Pr) (hm : p.dl.may = p.may) : p.err = p.rerr := by
  unfold Pr.err Pr.rerr Ws.err Ws.on
  simp only [hm, Bool.false_or, Nat.zero_add, Nat.zero_max]
  cases p.may <;> simp
end Pg
theorem pr_rm {B : Nat → Prop} {w : World} {p : Pg.Pr} {a1 a2 : Option Addr} {k1 k2 : Nat} (h : PrC B w p a1 a2 k1 k2) (hw : p.w ≤ 60000) : Rm ⟨false, 0, 0, 0⟩ [] p.dl ∧ p.dl.nd ≤ 100000000 ∧ p.dl.en.length ≤ 1000000000 ∧ p.err = p.rerr ∧ p.dl.may = p.may := by
  obtain ⟨q1, q2, q3, q4⟩ := Pg.pr_bd p h.f.rr (by omega)
  have q5 : (p.dl.nd : Int) ≤ 60000 := by
    obtain ⟨a1, _, _⟩ := Pg.ts_bd p.types
    obtain ⟨b1, b2, _, _, _⟩ := Pg.fs_bd p.funcs h.f.rr
    have nd := Pg.Pr.nd_eq p
    unfold Pg.Pr.w at hw
    omega
  refine ⟨⟨?_, ?_, ?_⟩, by omega, by omega, Pg.pr_err p q4, q4⟩
  · show 0 + p.dl.nd < _; omega
  · show 0 + p.dl.dp < _; omega
  · simp only [List.length_nil]; omega
end Go.Proofs.Ytljdjkiejppenaa
