/- Contracts and plain facts that the walks share. -/
import Derived.Test.YtpcgkggpmipiaaaGreatG23
import Derived.Test.YtpcgkggpmipiaaaGreatG7
import Derived.Test.YtpcgkggpmipiaaaGreatPgW2
import Derived.Test.YtpcgkggpmipiaaaGreatG5
import Derived.Test.YtpcgkggpmipiaaaGreatG6
import Derived.Test.YtpcgkggpmipiaaaGreatRuRel
import Derived.Test.YtpcgkggpmipiaaaGreatG3
import Derived.Test.YtpcgkggpmipiaaaGreatG9
import Derived.Laws.BitsAllLaws
namespace Go.Proofs.YtpcgkggpmipiaaaGreat
open Go.RowKit
set_option linter.unusedVariables false
inductive ExR : Pg.Ex → Prop
  | mk {op t n : Int} {s : ByteArray} {args : List Pg.Ex} (rg : R64 n) (all : ∀ y, y ∈ args → ExR y) : ExR (.mk op t n s args)
inductive StR : Pg.St → Prop
  | mk {op n : Int} {args : List Pg.Ex} {dst : List Int} {a b : List Pg.St} (rg : R64 n) (h1 : ∀ y, y ∈ args → ExR y) (h2 : ∀ y, y ∈ a → StR y) (h3 : ∀ y, y ∈ b → StR y) : StR (.mk op n args dst a b)
theorem ExAt.rr {B : Nat → Prop} {W : World} : ∀ {b o : Nat} {x : Pg.Ex}, ExAt B W b o x → ExR x
  | _, _, _, .mk c0 c1 c2 c3 c4 rg sz nil le max fits pl all => .mk rg fun y hy => by
    obtain ⟨i, hi⟩ := List.getElem?_of_mem hy
    exact ExAt.rr (all i y hi)
theorem ExL.rr {B : Nat → Prop} {W : World} {a : Option Addr} {c : Nat} {l : List Pg.Ex} (h : ExL B W a c l) : ∀ y, y ∈ l → ExR y := fun y hy => by
  rcases h.lie with h0 | ⟨b, o, _, _, hx⟩
  · rw [h0] at hy; simp at hy
  · obtain ⟨i, hi⟩ := List.getElem?_of_mem hy
    exact (hx i y hi).rr
theorem StAt.rr {B : Nat → Prop} {W : World} : ∀ {b o : Nat} {x : Pg.St}, StAt B W b o x → StR x
  | _, _, _, .mk c0 c1 c2 c3 c4 c5 rg h1 h2 n3 l3 m3 f3 p3 q3 n4 l4 m4 f4 p4 q4 => .mk rg h1.rr (fun y hy => by
    obtain ⟨i, hi⟩ := List.getElem?_of_mem hy
    exact StAt.rr (q3 i y hi)) (fun y hy => by
    obtain ⟨i, hi⟩ := List.getElem?_of_mem hy
    exact StAt.rr (q4 i y hi))
theorem StL.rr {B : Nat → Prop} {W : World} {a : Option Addr} {c : Nat} {l : List Pg.St} (h : StL B W a c l) : ∀ y, y ∈ l → StR y := fun y hy => by
  rcases h.lie with h0 | ⟨b, o, _, _, hx⟩
  · rw [h0] at hy; simp at hy
  · obtain ⟨i, hi⟩ := List.getElem?_of_mem hy
    exact (hx i y hi).rr
theorem FnL.rr {B : Nat → Prop} {W : World} {a : Option Addr} {c : Nat} {l : List Pg.Fn} (h : FnL B W a c l) : ∀ f, f ∈ l → ∀ y, y ∈ f.body → StR y := fun f hf => by
  rcases h.lie with h0 | ⟨b, o, _, _, hx⟩
  · rw [h0] at hf; simp at hf
  · obtain ⟨i, hi⟩ := List.getElem?_of_mem hf
    obtain ⟨_, _, _, _, _, _, he⟩ := hx i f hi
    exact he.b.rr
namespace Pg
theorem cnt_may (n : Int) : (dCnt n).may = okB n := rfl
theorem cnt_len (n : Int) : (dCnt n).en.length ≤ 5 := by
  unfold dCnt
  by_cases h : okB n = true
  · simp only [h, if_true]
    refine grp_len 4 _ ?_
    have : 0 ≤ n ∧ n < 2147483648 := by simpa [okB] using h
    have h2 : (2147483648 : Nat) ≤ 128 ^ 5 := by decide
    omega
  · simp [h]
theorem num_len {n : Int} (h : R64 n) : (dNum n).en.length ≤ 10 := by
  refine grp_len 9 _ ?_
  have := zig_lt h
  have h2 : (18446744073709551616 : Nat) ≤ 128 ^ 10 := by decide
  omega
theorem txt_en (s : ByteArray) : (dTxt s).en.length ≤ 258 := by
  unfold dTxt
  by_cases h : s.size ≤ 256
  · rw [if_pos h, List.length_append, txt_len]
    have := grp_len 1 s.size (by have : (128 : Nat) ^ 2 = 16384 := by decide
                                 omega)
    omega
  · rw [if_neg h]; simp
theorem nums_en (l : List Int) : (dNumL l).en.length ≤ 5 + 5 * l.length := by
  have h1 := cnt_len (l.length : Int)
  have h2 : ∀ l : List Int, (dNums l).en.length ≤ 5 * l.length := by
    intro l
    induction l with
    | nil => simp [dNums, Dl.nil]
    | cons n l ih => have := cnt_len n; simp only [dNums, Dl.app, List.length_append, List.length_cons]; omega
  have := h2 l
  simp only [dNumL, Dl.app, List.length_append]
  omega
theorem nums_may {l : List Int} (h : l.length < 2147483648) : (dNumL l).may = l.all okB := by
  have h2 : ∀ l : List Int, (dNums l).may = l.all okB := by
    intro l
    induction l with
    | nil => rfl
    | cons n l ih => simp only [dNums, Dl.app, ih, List.all_cons]; rfl
  have h1 : okB (l.length : Int) = true := by simp [okB]; omega
  simp only [dNumL, Dl.app, h2]
  rw [cnt_may (l.length : Int), h1, Bool.true_and]
def Bd (d : Dl) (w : Int) (may : Bool) : Prop := 0 ≤ w ∧ (d.nd : Int) ≤ w ∧ d.dp ≤ d.nd ∧ (d.en.length : Int) ≤ 300 * w ∧ (w ≤ 1000000 → d.may = may)
theorem es_bd : ∀ l : List Ex, (∀ y, y ∈ l → Bd y.dl y.w y.may ∧ 1 ≤ y.w) → Bd (dCat Ex.dl l) (wEs l) (l.all Ex.may) ∧ (l.length : Int) ≤ wEs l
  | [], _ => ⟨⟨by simp [wEs], by simp [dCat, Dl.nil, wEs], by simp [dCat, Dl.nil], by simp [dCat, Dl.nil, wEs], fun _ => rfl⟩, by simp [wEs]⟩
  | x :: l, h => by
    obtain ⟨⟨a1, a2, a3, a4, a5⟩, a6⟩ := h x (by simp)
    obtain ⟨⟨b1, b2, b3, b4, b5⟩, b6⟩ := es_bd l (fun y hy => h y (by simp [hy]))
    refine ⟨⟨?_, ?_, ?_, ?_, fun hw => ?_⟩, ?_⟩
    · simp only [wEs]; omega
    · simp only [wEs, dCat, Dl.app]; omega
    · simp only [dCat, Dl.app]; omega
    · simp only [wEs, dCat, Dl.app, List.length_append]; omega
    · simp only [wEs] at hw
      simp only [dCat, Dl.app, List.all_cons, a5 (by omega), b5 (by omega)]
    · simp only [wEs, List.length_cons]; omega
theorem ex_bd (x : Ex) : ExR x → Bd x.dl x.w x.may ∧ 1 ≤ x.w := by
  refine Ex.ind (P := fun x => ExR x → Bd x.dl x.w x.may ∧ 1 ≤ x.w) ?_ x
  intro op t n s args ih hr
  cases hr with
  | mk rg all =>
    obtain ⟨⟨b1, b2, b3, b4, b5⟩, b6⟩ := es_bd args (fun y hy => ih y hy (all y hy))
    have e := Ex.dl_eq (.mk op t n s args)
    have hw := Ex.w_eq (.mk op t n s args)
    have hm := Ex.may_eq (.mk op t n s args)
    have nd := Ex.nd_eq (.mk op t n s args)
    simp only [Ex.op, Ex.t, Ex.n, Ex.s, Ex.args] at e hw hm nd
    have hs : 0 ≤ (s.size : Int) / 16 := by omega
    refine ⟨⟨by omega, by omega, by omega, ?_, fun h => ?_⟩, by omega⟩
    · have q1 := cnt_len op
      have q2 := cnt_len t
      have q3 := num_len rg
      have q4 := txt_en s
      have q5 := cnt_len (args.length : Int)
      rw [e]
      simp only [Dl.node, Dl.app, List.length_append, dExL, dEs_cat]
      omega
    · rw [e, hm]
      have q5 : okB (args.length : Int) = true := by simp [okB]; omega
      simp only [Dl.node, Dl.app, dExL, dEs_cat, b5 (by omega)]
      rw [cnt_may (args.length : Int), q5, cnt_may op, cnt_may t, show (dNum n).may = true from rfl]
      have ht : (dTxt s).may = decide ((s.size : Int) ≤ 256) := by
        unfold dTxt
        by_cases h : s.size ≤ 256
        · rw [if_pos h]; exact (decide_eq_true (by omega)).symm
        · rw [if_neg h]; exact (decide_eq_false (by omega)).symm
      rw [ht]
      by_cases h256 : (s.size : Int) ≤ 256
      · have e1 : ∀ {i : Decidable ((s.size : Int) ≤ 256)}, @decide ((s.size : Int) ≤ 256) i = true := fun {i} => @decide_eq_true _ i h256
        simp only [e1]
        cases okB op <;> cases okB t <;> cases (args.all Ex.may) <;> first | rfl | (simp; exact decide_eq_true h256)
      · have e1 : ∀ {i : Decidable ((s.size : Int) ≤ 256)}, @decide ((s.size : Int) ≤ 256) i = false := fun {i} => @decide_eq_false _ i h256
        simp only [e1]
        cases okB op <;> cases okB t <;> cases (args.all Ex.may) <;> first | rfl | (simp; exact decide_eq_false h256)
theorem ss_bd : ∀ l : List St, (∀ y, y ∈ l → Bd y.dl y.w y.may ∧ 1 ≤ y.w) → Bd (dCat St.dl l) (wSs l) (l.all St.may) ∧ (l.length : Int) ≤ wSs l
  | [], _ => ⟨⟨by simp [wSs], by simp [dCat, Dl.nil, wSs], by simp [dCat, Dl.nil], by simp [dCat, Dl.nil, wSs], fun _ => rfl⟩, by simp [wSs]⟩
  | x :: l, h => by
    obtain ⟨⟨a1, a2, a3, a4, a5⟩, a6⟩ := h x (by simp)
    obtain ⟨⟨b1, b2, b3, b4, b5⟩, b6⟩ := ss_bd l (fun y hy => h y (by simp [hy]))
    refine ⟨⟨?_, ?_, ?_, ?_, fun hw => ?_⟩, ?_⟩
    · simp only [wSs]; omega
    · simp only [wSs, dCat, Dl.app]; omega
    · simp only [dCat, Dl.app]; omega
    · simp only [wSs, dCat, Dl.app, List.length_append]; omega
    · simp only [wSs] at hw
      simp only [dCat, Dl.app, List.all_cons, a5 (by omega), b5 (by omega)]
    · simp only [wSs, List.length_cons]; omega
theorem okL {n : Nat} (h : (n : Int) ≤ 1000000) : okB (n : Int) = true := by simp [okB]; omega
theorem st_bd (x : St) : StR x → Bd x.dl x.w x.may ∧ 1 ≤ x.w := by
  refine St.ind (P := fun x => StR x → Bd x.dl x.w x.may ∧ 1 ≤ x.w) ?_ x
  intro op n args dst a b ia ib hr
  cases hr with
  | mk rg h1 h2 h3 =>
    obtain ⟨⟨b1, b2, b3, b4, b5⟩, b6⟩ := es_bd args (fun y hy => ex_bd y (h1 y hy))
    obtain ⟨⟨c1, c2, c3, c4, c5⟩, c6⟩ := ss_bd a (fun y hy => ia y hy (h2 y hy))
    obtain ⟨⟨d1, d2, d3, d4, d5⟩, d6⟩ := ss_bd b (fun y hy => ib y hy (h3 y hy))
    have e := St.dl_eq (.mk op n args dst a b)
    have hw := St.w_eq (.mk op n args dst a b)
    have hm := St.may_eq (.mk op n args dst a b)
    have nd := St.nd_eq (.mk op n args dst a b)
    simp only [St.op, St.n, St.args, St.dst, St.a, St.b] at e hw hm nd
    refine ⟨⟨by omega, by omega, by omega, ?_, fun h => ?_⟩, by omega⟩
    · have q1 := cnt_len op
      have q3 := num_len rg
      have q4 := nums_en dst
      have q5 := cnt_len (args.length : Int)
      have q6 := cnt_len (a.length : Int)
      have q7 := cnt_len (b.length : Int)
      rw [e]
      simp only [Dl.node, Dl.app, List.length_append, dExL, dEs_cat, dStL, dSs_cat]
      omega
    · rw [e, hm]
      simp only [Dl.node, Dl.app, dExL, dEs_cat, dStL, dSs_cat, b5 (by omega), c5 (by omega), d5 (by omega), nums_may (l := dst) (by omega)]
      rw [cnt_may (args.length : Int), okL (by omega), cnt_may (a.length : Int), okL (by omega), cnt_may (b.length : Int), okL (by omega), cnt_may op, show (dNum n).may = true from rfl]
      cases okB op <;> cases (args.all Ex.may) <;> cases (dst.all okB) <;> simp
theorem ts_bd : ∀ l : List Tp, 0 ≤ wTs l ∧ ((dCat Tp.dl l).en.length : Int) ≤ 300 * (wTs l + l.length) ∧ (wTs l ≤ 1000000 → (dCat Tp.dl l).may = l.all Tp.may)
  | [] => ⟨by simp [wTs], by simp [dCat, Dl.nil, wTs], fun _ => rfl⟩
  | x :: l => by
    obtain ⟨a1, a2, a3⟩ := ts_bd l
    have q1 := cnt_len x.kind
    have q2 := cnt_len x.elem
    have q3 := cnt_len x.n
    have q4 := nums_en x.fields
    refine ⟨by simp only [wTs]; omega, ?_, fun h => ?_⟩
    · simp only [wTs, dCat, Dl.app, Tp.dl, List.length_append, List.length_cons]; omega
    · simp only [wTs] at h
      simp only [dCat, Dl.app, Tp.dl, List.all_cons, Tp.may, a3 (by omega), nums_may (l := x.fields) (by omega)]
      rfl
theorem fs_bd : ∀ l : List Fn, (∀ f, f ∈ l → ∀ y, y ∈ f.body → StR y) → 0 ≤ wFs l ∧ ((dCat Fn.dl l).nd : Int) ≤ wFs l ∧ (dCat Fn.dl l).dp ≤ (dCat Fn.dl l).nd ∧ ((dCat Fn.dl l).en.length : Int) ≤ 300 * (wFs l + l.length) ∧ (wFs l ≤ 1000000 → (dCat Fn.dl l).may = l.all Fn.may)
  | [], _ => ⟨by simp [wFs], by simp [dCat, Dl.nil, wFs], by simp [dCat, Dl.nil], by simp [dCat, Dl.nil, wFs], fun _ => rfl⟩
  | x :: l, h => by
    obtain ⟨a1, a2, a3, a4, a5⟩ := fs_bd l (fun f hf => h f (by simp [hf]))
    obtain ⟨⟨b1, b2, b3, b4, b5⟩, b6⟩ := ss_bd x.body (fun y hy => st_bd y (h x (by simp) y hy))
    have q1 := cnt_len x.params
    have q2 := nums_en x.locals
    have q3 := nums_en x.results
    have q4 := cnt_len (x.body.length : Int)
    have nd := Fn.nd_eq x
    refine ⟨by simp only [wFs, Fn.w]; omega, ?_, ?_, ?_, fun h => ?_⟩
    · simp only [wFs, Fn.w, dCat, Dl.app]; omega
    · simp only [dCat, Dl.app]; omega
    · simp only [wFs, Fn.w, dCat, Dl.app, Fn.dl, List.length_append, List.length_cons, dStL, dSs_cat]; omega
    · simp only [wFs, Fn.w] at h
      simp only [dCat, Dl.app, Fn.dl, List.all_cons, Fn.may, a5 (by omega), nums_may (l := x.locals) (by omega), nums_may (l := x.results) (by omega), dStL, dSs_cat, b5 (by omega)]
      rw [cnt_may (x.body.length : Int), okL (by omega), cnt_may x.params, Bool.true_and]
theorem pr_bd (p : Pr) (h : ∀ f, f ∈ p.funcs → ∀ y, y ∈ f.body → StR y) (hw : p.w ≤ 1000000) : p.dl.nd ≤ 1000000 ∧ p.dl.dp ≤ p.dl.nd ∧ p.dl.en.length ≤ 600000020 ∧ p.dl.may = p.may := by
  obtain ⟨a1, a2, a3⟩ := ts_bd p.types
  obtain ⟨b1, b2, b3, b4, b5⟩ := fs_bd p.funcs h
  have nd := Pr.nd_eq p
  have q1 := cnt_len (p.types.length : Int)
  have q2 := cnt_len (p.funcs.length : Int)
  unfold Pr.w at hw
  refine ⟨by omega, by omega, ?_, ?_⟩
  · simp only [Pr.dl, Dl.app, List.length_append, dTs_cat, dFs_cat]; omega
  · simp only [Pr.dl, Dl.app, dTs_cat, dFs_cat, Pr.may, a3 (by omega), b5 (by omega)]
    rw [cnt_may (p.types.length : Int), okL (by omega), cnt_may (p.funcs.length : Int), okL (by omega), Bool.true_and, Bool.true_and]
theorem pr_err (p : Pr) (hm : p.dl.may = p.may) : p.err = p.rerr := by
  unfold Pr.err Pr.rerr Ws.err Ws.on
  simp only [hm, Bool.false_or, Nat.zero_add, Nat.zero_max]
  cases p.may <;> simp
end Pg
theorem pr_rm {B : Nat → Prop} {w : World} {p : Pg.Pr} {a1 a2 : Option Addr} {k1 k2 : Nat} (h : PrC B w p a1 a2 k1 k2) (hw : p.w ≤ 60000) : Rm ⟨false, 0, 0, 0⟩ [] p.dl ∧ p.dl.nd ≤ 100000000 ∧ p.dl.en.length ≤ 1000000000 ∧ p.err = p.rerr ∧ p.dl.may = p.may := by
  obtain ⟨q1, q2, q3, q4⟩ := Pg.pr_bd p h.f.rr (by omega)
  have q5 : (p.dl.nd : Int) ≤ 60000 := by
    obtain ⟨a1, _, _⟩ := Pg.ts_bd p.types
    obtain ⟨b1, b2, _, _, _⟩ := Pg.fs_bd p.funcs h.f.rr
    have nd := Pg.Pr.nd_eq p
    unfold Pg.Pr.w at hw
    omega
  refine ⟨⟨?_, ?_, ?_⟩, by omega, by omega, Pg.pr_err p q4, q4⟩
  · show 0 + p.dl.nd < _; omega
  · show 0 + p.dl.dp < _; omega
  · simp only [List.length_nil]; omega
end Go.Proofs.YtpcgkggpmipiaaaGreat
namespace Go.Proofs.YtpcgkggpmipiaaaGreat
open Go.RowKit
set_option linter.unusedVariables false
set_option maxRecDepth 10000
namespace Ck
theorem bind_ok {α β : Type} {a : Except Int α} {f : α → Except Int β} {v : β} (h : (a >>= f) = .ok v) : ∃ x, a = .ok x ∧ f x = .ok v := by
 cases a with
 | error e => cases h
 | ok x => exact ⟨x, rfl, h⟩
theorem take_inv {p : Pg.Pr} (h : takeP p = .ok ()) : p.err = 0 ∧ Ty.chk (Pg.tab p.types) p.types.length = 0 ∧ (0 < p.funcs.length ∧ p.funcs.length ≤ 32) ∧ heads (of p) true p.funcs = .ok () ∧ bodies (of p) p.funcs = .ok () := by
 by_cases h1 : p.err = 0
 case neg => rw [take_1 h1] at h; cases h
 by_cases h2 : Ty.chk (Pg.tab p.types) p.types.length = 0
 case neg => rw [take_2 h1 h2] at h; cases h
 by_cases h3 : 0 < p.funcs.length ∧ p.funcs.length ≤ 32
 case neg => rw [take_3 h1 h2 h3] at h; cases h
 rw [take_4 h1 h2 h3] at h
 obtain ⟨u, h4, h5⟩ := bind_ok h
 obtain ⟨⟩ := u
 exact ⟨h1, h2, h3, h4, h5⟩
end Ck
namespace Pg
def u32 : Tp := ⟨8, 0, 0, []⟩
def ret : Fn := ⟨0, [], [], [.mk 7 0 [] [] [] []]⟩
def more (p : Pr) : Pr := ⟨p.types ++ [u32], p.funcs ++ [ret]⟩
theorem okB_small {n : Nat} (h : n ≤ 1000) : okB (n : Int) = true := by
 unfold okB
 simp only [Bool.and_eq_true, decide_eq_true_eq]
 omega
end Pg
namespace Pg
/- weights -/
theorem swEs_w (s : Int → Int) : ∀ l : List Ex, (∀ y, y ∈ l → (y.sw s).w = y.w) → wEs (swEs s l) = wEs l
 | [], _ => rfl
 | x :: l, h => by rw [swEs, wEs, wEs, h x (by simp), swEs_w s l (fun y hy => h y (by simp [hy]))]
theorem Ex.sw_w (s : Int → Int) : ∀ x : Ex, (x.sw s).w = x.w := Ex.ind fun op t n x args ih => by
 rw [Ex.sw, Ex.w, Ex.w, swEs_w s args ih]
theorem swSs_w (s : Int → Int) : ∀ l : List St, (∀ y, y ∈ l → (y.sw s).w = y.w) → wSs (swSs s l) = wSs l
 | [], _ => rfl
 | x :: l, h => by rw [swSs, wSs, wSs, h x (by simp), swSs_w s l (fun y hy => h y (by simp [hy]))]
theorem St.sw_w (s : Int → Int) : ∀ x : St, (x.sw s).w = x.w := St.ind fun op n args dst a b iha ihb => by
 rw [St.sw, St.w, St.w, swEs_w s args (fun y _ => Ex.sw_w s y), swSs_w s a iha, swSs_w s b ihb, List.length_map]
theorem Fn.sw_w (f : Fn) (a b : Nat) : (f.sw a b).w = f.w := by
 unfold Fn.w Fn.sw
 simp only [List.length_set, swSs_w _ _ (fun y _ => St.sw_w _ y)]
theorem wFs_set : ∀ (l : List Fn) (n : Nat) (g : Fn), g.w = (l.getD n fn0).w → wFs (l.set n g) = wFs l
 | [], _, _, _ => rfl
 | f :: l, 0, g, h => by
  simp only [List.set_cons_zero, wFs]
  rw [h]
  rfl
 | f :: l, n + 1, g, h => by
  simp only [List.set_cons_succ, wFs]
  rw [wFs_set l n g h]
theorem Pr.sw_w (p : Pr) (n a b : Nat) : (p.sw n a b).w = p.w := by
 unfold Pr.w Pr.sw
 simp only [List.length_set]
 rw [wFs_set _ _ _ (Fn.sw_w _ _ _)]
/- what is laid down -/
def Dq (a b : Dl) : Prop := a.may = b.may ∧ a.nd = b.nd ∧ a.dp = b.dp
theorem Dq.app {a b c d : Dl} (h : Dq a b) (g : Dq c d) : Dq (a.app c) (b.app d) := by
 obtain ⟨h1, h2, h3⟩ := h
 obtain ⟨g1, g2, g3⟩ := g
 simp only [Dq, Dl.app, h1, h2, h3, g1, g2, g3]
 exact ⟨trivial, trivial, trivial⟩
theorem Dq.node {a b : Dl} (h : Dq a b) : Dq a.node b.node := by
 obtain ⟨h1, h2, h3⟩ := h
 simp only [Dq, Dl.node, h1, h2, h3]
 exact ⟨trivial, trivial, trivial⟩
theorem Dq.rfl' (a : Dl) : Dq a a := ⟨rfl, rfl, rfl⟩
theorem Dq.num (n m : Int) : Dq (dNum n) (dNum m) := ⟨rfl, rfl, rfl⟩
theorem swEs_dq (s : Int → Int) : ∀ l : List Ex, (∀ y, y ∈ l → Dq (y.sw s).dl y.dl) → Dq (dEs (swEs s l)) (dEs l)
 | [], _ => Dq.rfl' _
 | x :: l, h => by rw [swEs, dEs, dEs]; exact (h x (by simp)).app (swEs_dq s l fun y hy => h y (by simp [hy]))
theorem Ex.sw_dq (s : Int → Int) : ∀ x : Ex, Dq (x.sw s).dl x.dl := Ex.ind fun op t n x args ih => by
 rw [Ex.sw, Ex.dl, Ex.dl, swEs_len]
 exact ((Dq.rfl' _).app ((Dq.rfl' _).app ((Dq.num _ _).app ((Dq.rfl' _).app ((Dq.rfl' _).app (swEs_dq s args ih)))))).node
theorem nums_dq (s : Int → Int) (hs : ∀ x, okB (s x) = okB x) : ∀ l : List Int, Dq (dNums (l.map s)) (dNums l)
 | [] => Dq.rfl' _
 | x :: l => by
  rw [List.map_cons, dNums, dNums]
  exact Dq.app ⟨hs x, rfl, rfl⟩ (nums_dq s hs l)
theorem swSs_dq (s : Int → Int) : ∀ l : List St, (∀ y, y ∈ l → Dq (y.sw s).dl y.dl) → Dq (dSs (swSs s l)) (dSs l)
 | [], _ => Dq.rfl' _
 | x :: l, h => by rw [swSs, dSs, dSs]; exact (h x (by simp)).app (swSs_dq s l fun y hy => h y (by simp [hy]))
theorem St.sw_dq (s : Int → Int) (hs : ∀ x, okB (s x) = okB x) : ∀ x : St, Dq (x.sw s).dl x.dl := St.ind fun op n args dst a b iha ihb => by
 rw [St.sw, St.dl, St.dl]
 simp only [dExL, dNumL, swEs_len, swSs_len, List.length_map]
 exact ((Dq.rfl' _).app ((Dq.num _ _).app (((Dq.rfl' _).app (swEs_dq s args fun y _ => Ex.sw_dq s y)).app (((Dq.rfl' _).app (nums_dq s hs dst)).app (((Dq.rfl' _).app (swSs_dq s a iha)).app ((Dq.rfl' _).app (swSs_dq s b ihb))))))).node
theorem nums_all : ∀ l : List Int, (dNums l).may = l.all okB ∧ (dNums l).nd = 0 ∧ (dNums l).dp = 0
 | [] => ⟨rfl, rfl, rfl⟩
 | x :: l => by
  obtain ⟨h1, h2, h3⟩ := nums_all l
  simp only [dNums, Dl.app, h1, h2, h3, List.all_cons]
  exact ⟨rfl, rfl, rfl⟩
theorem mem_swap {l : List Int} {a b : Nat} (ha : a < l.length) (hb : b < l.length) (x : Int) : x ∈ (l.set a (l.getD b 0)).set b (l.getD a 0) ↔ x ∈ l := by
 have e : ∀ i, i < l.length → ((l.set a (l.getD b 0)).set b (l.getD a 0))[i]? = some (if b = i then l.getD a 0 else if a = i then l.getD b 0 else l.getD i 0) := by
  intro i hi
  rw [List.getElem?_set, List.length_set]
  by_cases h1 : b = i
  ·subst h1
   rw [if_pos rfl, if_pos hi, if_pos rfl]
  ·rw [if_neg h1, if_neg h1, List.getElem?_set]
   by_cases h2 : a = i
   ·subst h2
    rw [if_pos rfl, if_pos hi, if_pos rfl]
   ·rw [if_neg h2, if_neg h2, List.getElem?_eq_getElem hi]
    simp [List.getD_eq_getElem?_getD, hi]
 have g : ∀ i, i < l.length → l.getD i 0 ∈ l := fun i hi => by
  rw [List.getD_eq_getElem?_getD, List.getElem?_eq_getElem hi]; exact List.getElem_mem hi
 have q : ∀ i, i < l.length → l[i]? = some (l.getD i 0) := fun i hi => by
  rw [List.getD_eq_getElem?_getD, List.getElem?_eq_getElem hi]; rfl
 constructor
 ·intro h
  obtain ⟨i, hi⟩ := List.getElem?_of_mem h
  have hl : i < l.length := by simpa using (List.getElem?_eq_some_iff.1 hi).1
  rw [e i hl] at hi
  injection hi with hi
  subst hi
  split
  ·exact g a ha
  ·split
   ·exact g b hb
   ·exact g i hl
 ·intro h
  obtain ⟨i, hi⟩ := List.getElem?_of_mem h
  have hl : i < l.length := (List.getElem?_eq_some_iff.1 hi).1
  have hx : x = l.getD i 0 := by rw [q i hl] at hi; injection hi with hi; exact hi.symm
  subst hx
  by_cases h1 : i = a
  ·subst h1
   refine List.mem_of_getElem? (i := b) ?_
   rw [e b hb, if_pos rfl]
  ·by_cases h2 : i = b
   ·subst h2
    refine List.mem_of_getElem? (i := a) ?_
    rw [e a ha]
    by_cases h3 : i = a
    ·rw [if_pos h3, h3]
    ·rw [if_neg h3, if_pos rfl]
   ·refine List.mem_of_getElem? (i := i) ?_
    rw [e i hl, if_neg (fun h => h2 h.symm), if_neg (fun h => h1 h.symm)]
theorem all_swap {l : List Int} {a b : Nat} (ha : a < l.length) (hb : b < l.length) (p : Int → Bool) : ((l.set a (l.getD b 0)).set b (l.getD a 0)).all p = l.all p := by
 rw [Bool.eq_iff_iff, List.all_eq_true, List.all_eq_true]
 exact ⟨fun h x hx => h x ((mem_swap ha hb x).2 hx), fun h x hx => h x ((mem_swap ha hb x).1 hx)⟩
theorem oth_ok {a b : Nat} (ha : a < 1000) (hb : b < 1000) (x : Int) : okB (oth a b x) = okB x := by
 unfold oth
 split
 ·rename_i h; rw [h, okB_small (by omega), okB_small (by omega)]
 ·split
  ·rename_i h; rw [h, okB_small (by omega), okB_small (by omega)]
  ·rfl
theorem Fn.sw_dq {f : Fn} {a b : Nat} (ha : a < f.locals.length) (hb : b < f.locals.length) (hl : f.locals.length ≤ 32) : Dq (f.sw a b).dl f.dl := by
 unfold Fn.sw Fn.dl dNumL dStL
 simp only [List.length_set, swSs_len]
 have h1 : Dq (dNums ((f.locals.set a (f.locals.getD b 0)).set b (f.locals.getD a 0))) (dNums f.locals) := by
  obtain ⟨h1, h2, h3⟩ := nums_all ((f.locals.set a (f.locals.getD b 0)).set b (f.locals.getD a 0))
  obtain ⟨g1, g2, g3⟩ := nums_all f.locals
  exact ⟨by rw [h1, g1, all_swap ha hb], by rw [h2, g2], by rw [h3, g3]⟩
 exact (Dq.rfl' _).app (((Dq.rfl' _).app h1).app ((Dq.rfl' _).app ((Dq.rfl' _).app (swSs_dq _ _ fun y _ => St.sw_dq _ (oth_ok (by omega) (by omega)) y))))
theorem dFs_set : ∀ (l : List Fn) (n : Nat) (g : Fn), Dq g.dl (l.getD n fn0).dl → Dq (dFs (l.set n g)) (dFs l)
 | [], _, _, _ => Dq.rfl' _
 | f :: l, 0, g, h => by
  rw [List.set_cons_zero, dFs, dFs]
  exact Dq.app h (Dq.rfl' _)
 | f :: l, n + 1, g, h => by
  rw [List.set_cons_succ, dFs, dFs]
  exact (Dq.rfl' _).app (dFs_set l n g h)
theorem Pr.sw_err {p : Pr} {n a b : Nat} (ha : a < (p.funcs.getD n fn0).locals.length) (hb : b < (p.funcs.getD n fn0).locals.length) (hl : (p.funcs.getD n fn0).locals.length ≤ 32) : (p.sw n a b).err = p.err := by
 have h : Dq (p.sw n a b).dl p.dl := by
  unfold Pr.dl Pr.sw
  simp only [List.length_set]
  exact (Dq.rfl' _).app ((Dq.rfl' _).app (dFs_set _ _ _ (Fn.sw_dq ha hb hl)))
 obtain ⟨h1, h2, h3⟩ := h
 unfold Pr.err Ws.on
 rw [h1, h2, h3]
end Pg
namespace Ck
structure Sw (c d : En) (s : Int → Int) : Prop where
 T : d.T = c.T
 n : d.n = c.n
 fs : d.fs.length = c.fs.length
 g : ∀ i, (d.fs.getD i Pg.fn0).params = (c.fs.getD i Pg.fn0).params ∧ (d.fs.getD i Pg.fn0).results = (c.fs.getD i Pg.fn0).results ∧ (d.fs.getD i Pg.fn0).locals.take (d.fs.getD i Pg.fn0).params.toNat = (c.fs.getD i Pg.fn0).locals.take (c.fs.getD i Pg.fn0).params.toNat
 len : d.f.locals.length = c.f.locals.length
 res : d.f.results = c.f.results
 inr : ∀ x, Ty.nmB c.f.locals.length (s x) = Ty.nmB c.f.locals.length x
 inj : ∀ x y, s x = s y → x = y
 loc : ∀ x, Ty.nmB c.f.locals.length x = true → d.f.locals.getD (s x).toNat 0 = c.f.locals.getD x.toNat 0
theorem Sw.fns {c d : En} {s : Int → Int} (h : Sw c d s) : kd d = kd c ∧ el d = el c ∧ fd d = fd c ∧ ent d = ent c ∧ val d = val c ∧ intK d = intK c ∧ plainK d = plainK c ∧ listK d = listK c ∧ ptr d = ptr c ∧ fld d = fld c := by
 obtain ⟨T, n, fs, f⟩ := c
 obtain ⟨T2, n2, fs2, f2⟩ := d
 have h1 := h.T
 have h2 := h.n
 dsimp only at h1 h2
 subst h1
 subst h2
 exact ⟨rfl, rfl, rfl, rfl, rfl, rfl, rfl, rfl, rfl, rfl⟩
theorem pre_sw {c d : En} {s : Int → Int} (h : Sw c d s) (op t n : Int) (sz k : Nat) : pre d op t (if op = 4 then s n else n) sz k = pre c op t n sz k := by
 obtain ⟨_, _, _, e4, _⟩ := h.fns
 unfold pre
 rw [e4]
 by_cases h4 : op = 4
 ·subst h4
  simp only [if_true]
  rw [show trow 4 (s n) = some (false, true, false, 0) from rfl, show trow 4 n = some (false, true, false, 0) from rfl]
  simp only [Bool.or_true]
 ·rw [if_neg h4]
theorem ask_sw {c d : En} {s : Int → Int} (h : Sw c d s) (op t n : Int) (l : List Int) : ask d op t (if op = 4 then s n else n) l = ask c op t n l := by
 obtain ⟨e1, e2, e3, e4, e5, e6, e7, e8, e9, e10⟩ := h.fns
 by_cases h4 : op = 4
 ·subst h4
  simp only [if_true]
  show (do must (Ty.nmB d.f.locals.length (s n)) 92; Except.ok (d.f.locals.getD (s n).toNat 0)) = (do must (Ty.nmB c.f.locals.length n) 92; Except.ok (c.f.locals.getD n.toNat 0))
  rw [h.len, h.inr]
  cases hn : Ty.nmB c.f.locals.length n with
  | false => rfl
  | true => rw [h.loc n hn]
 ·rw [if_neg h4]
  unfold ask
  simp only [e1, e2, e3, e5, e6, e7, e8, e9, e10, h.T, if_neg h4]
theorem tms_sw {c d : En} {s : Int → Int} : ∀ l : List Pg.Ex, (∀ y, y ∈ l → tm d (y.sw s) = tm c y) → tms d (Pg.swEs s l) = tms c l
 | [], _ => rfl
 | x :: l, h => by rw [Pg.swEs, tms, tms, h x (by simp), tms_sw l fun y hy => h y (by simp [hy])]
theorem tm_sw {c d : En} {s : Int → Int} (h : Sw c d s) : ∀ x : Pg.Ex, tm d (x.sw s) = tm c x := Pg.Ex.ind fun op t n x args ih => by
 rw [Pg.Ex.sw, tm, tm, pre_sw h, Pg.swEs_len, tms_sw args ih]
 simp only [ask_sw h]
theorem has_sw {s : Int → Int} (hi : ∀ x y, s x = s y → x = y) (x : Int) : ∀ l : List Int, (l.map s).contains (s x) = l.contains x
 | [] => rfl
 | y :: l => by
  rw [List.map_cons, List.contains_cons, List.contains_cons, has_sw hi x l]
  congr 1
  rw [Bool.eq_iff_iff, beq_iff_eq, beq_iff_eq]
  exact ⟨fun h => hi _ _ h, fun h => by rw [h]⟩
theorem locs_sw {c d : En} {s : Int → Int} (h : Sw c d s) : ∀ (l had : List Int), locs d (had.map s) (l.map s) = locs c had l
 | [], _ => rfl
 | x :: l, had => by
  rw [List.map_cons, locs, locs, h.len, h.inr, has_sw h.inj, show had.map s ++ [s x] = (had ++ [x]).map s by simp, locs_sw h l]
theorem locs_in {c : En} : ∀ {l had : List Int}, locs c had l = true → ∀ x, x ∈ l → Ty.nmB c.f.locals.length x = true
 | [], _, _, x, hx => by simp at hx
 | y :: l, had, h, x, hx => by
  rw [locs] at h
  simp only [Bool.and_eq_true] at h
  rcases List.mem_cons.1 hx with rfl | hx
  ·exact h.1.1
  ·exact locs_in h.2 x hx
theorem cal_sw {c d : En} {s : Int → Int} (h : Sw c d s) (n : Int) (dst l : List Int) : cal d n (dst.map s) l = cal c n dst l := by
 obtain ⟨g1, g2, g3⟩ := h.g n.toNat
 unfold cal
 rw [h.fs]
 have e0 := locs_sw h dst []
 rw [List.map_nil] at e0
 rw [e0]
 have g1' : (d.fs.getD n.toNat ⟨0, [], [], []⟩).params = (c.fs.getD n.toNat ⟨0, [], [], []⟩).params := g1
 have g2' : (d.fs.getD n.toNat ⟨0, [], [], []⟩).results = (c.fs.getD n.toNat ⟨0, [], [], []⟩).results := g2
 have g3' : (d.fs.getD n.toNat ⟨0, [], [], []⟩).locals.take (c.fs.getD n.toNat ⟨0, [], [], []⟩).params.toNat = (c.fs.getD n.toNat ⟨0, [], [], []⟩).locals.take (c.fs.getD n.toNat ⟨0, [], [], []⟩).params.toNat := by have g4 := g3; rw [g1] at g4; exact g4
 simp only [g1', g2', g3', List.length_map]
 cases hl : locs c [] dst with
 | false => rfl
 | true =>
  have e : (dst.map s).map (fun x => d.f.locals.getD x.toNat 0) = dst.map (fun x => c.f.locals.getD x.toNat 0) := by
   rw [List.map_map]
   exact List.map_congr_left fun x hx => h.loc x (locs_in hl x hx)
  rw [e]
theorem sask_sw {c d : En} {s : Int → Int} (h : Sw c d s) (lp : Nat) (op n : Int) (dst l : List Int) : sask d lp op (if op = 1 then s n else n) (dst.map s) l = sask c lp op n dst l := by
 obtain ⟨e1, e2, e3, e4, e5, e6, e7, e8, e9, e10⟩ := h.fns
 by_cases h1 : op = 1
 ·subst h1
  simp only [if_true]
  show (do must (Ty.nmB d.f.locals.length (s n)) 92; must (d.f.locals.getD (s n).toNat 0 == l.getD 0 0) 93) = (do must (Ty.nmB c.f.locals.length n) 92; must (c.f.locals.getD n.toNat 0 == l.getD 0 0) 93)
  rw [h.len, h.inr]
  cases hn : Ty.nmB c.f.locals.length n with
  | false => rfl
  | true => rw [h.loc n hn]
 ·rw [if_neg h1]
  unfold sask
  simp only [e1, e7, e9, h.res, if_neg h1, cal_sw h]
theorem spre_sw (s : Int → Int) (op n : Int) (k d a b : Nat) : spre op (if op = 1 then s n else n) k d a b = spre op n k d a b := by
 by_cases h1 : op = 1
 ·subst h1
  simp only [if_true]
  unfold spre
  rw [show srow 1 = some (true, false, false, false, 1) from rfl]
  simp only [Bool.or_true]
 ·rw [if_neg h1]
theorem sms_sw {c d : En} {s : Int → Int} : ∀ (l : List Pg.St) (lp : Nat), (∀ y, y ∈ l → ∀ lp, sm d lp (y.sw s) = sm c lp y) → sms d lp (Pg.swSs s l) = sms c lp l
 | [], _, _ => rfl
 | x :: l, lp, h => by rw [Pg.swSs, sms, sms, h x (by simp), sms_sw l lp fun y hy => h y (by simp [hy])]
theorem sm_sw {c d : En} {s : Int → Int} (h : Sw c d s) : ∀ x : Pg.St, ∀ lp, sm d lp (x.sw s) = sm c lp x := Pg.St.ind fun op n args dst a b iha ihb lp => by
 rw [Pg.St.sw, sm, sm, Pg.swEs_len, Pg.swSs_len, Pg.swSs_len, List.length_map, spre_sw, tms_sw args fun y _ => tm_sw h y, sms_sw a _ iha, sms_sw b _ ihb]
 simp only [sask_sw h]
theorem lvs_sw (s : Int → Int) : ∀ (l : List Pg.St) (n : Int), (∀ y, y ∈ l → ∀ n, lv n (y.sw s) = lv n y) → lvs n (Pg.swSs s l) = lvs n l
 | [], _, _ => rfl
 | x :: l, n, h => by rw [Pg.swSs, lvs, lvs, h x (by simp), lvs_sw s l n fun y hy => h y (by simp [hy])]
theorem lv_sw (s : Int → Int) : ∀ (x : Pg.St), ∀ n, lv n (x.sw s) = lv n x := Pg.St.ind fun op m args dst a b iha ihb n => by
 rw [Pg.St.sw, lv, lv, lvs_sw s a _ iha, lvs_sw s a _ iha, lvs_sw s b _ ihb]
 by_cases h5 : op = 5
 ·subst h5; rfl
 ·rw [if_neg h5, if_neg h5]
theorem ens_sw (s : Int → Int) : ∀ (l : List Pg.St), (∀ y, y ∈ l → en (y.sw s) = en y) → ens (Pg.swSs s l) = ens l
 | [], _ => rfl
 | x :: l, h => by rw [Pg.swSs, ens, ens, h x (by simp), ens_sw s l fun y hy => h y (by simp [hy])]
theorem en_sw (s : Int → Int) : ∀ (x : Pg.St), en (x.sw s) = en x := Pg.St.ind fun op m args dst a b iha ihb => by
 rw [Pg.St.sw, en, en, ens_sw s a iha, ens_sw s b ihb, lvs_sw s a _ fun y _ n => lv_sw s y n]
theorem heads_set {c : En} : ∀ (l : List Pg.Fn) (n : Nat) (g : Pg.Fn) (z : Bool), head c g = head c (l.getD n Pg.fn0) → first c g = first c (l.getD n Pg.fn0) → heads c z (l.set n g) = heads c z l
 | [], _, _, _, _, _ => rfl
 | f :: l, 0, g, z, h, h2 => by
  rw [List.set_cons_zero, heads, heads, h, h2]
  rfl
 | f :: l, n + 1, g, z, h, h2 => by
  rw [List.set_cons_succ, heads, heads, heads_set l n g false h h2]
theorem bodies_set {c d : En} : ∀ (l : List Pg.Fn) (n : Nat) (g : Pg.Fn), (∀ f, f ∈ l → sms { d with f := f } 0 f.body = sms { c with f := f } 0 f.body) → (n < l.length → sms { d with f := g } 0 g.body = sms { c with f := l.getD n Pg.fn0 } 0 (l.getD n Pg.fn0).body ∧ ens g.body = ens (l.getD n Pg.fn0).body) → bodies d (l.set n g) = bodies c l
 | [], _, _, _, _ => rfl
 | f :: l, 0, g, h, h2 => by
  obtain ⟨e1, e2⟩ := h2 (by simp)
  have h9 : ∀ m : List Pg.Fn, (∀ f, f ∈ m → sms { d with f := f } 0 f.body = sms { c with f := f } 0 f.body) → bodies d m = bodies c m := by
   intro m
   induction m with
   | nil => intro _; rfl
   | cons f m ih => intro hm; rw [bodies, bodies, hm f (by simp), ih fun y hy => hm y (by simp [hy])]
  rw [List.set_cons_zero, bodies, bodies, e1, e2, h9 l fun y hy => h y (by simp [hy])]
  rfl
 | f :: l, n + 1, g, h, h2 => by
  rw [List.set_cons_succ, bodies, bodies, h f (by simp), bodies_set l n g (fun y hy => h y (by simp [hy])) (fun hn => h2 (by simp; omega))]
theorem oth_inj {a b : Int} (x y : Int) (h : Pg.oth a b x = Pg.oth a b y) : x = y := by
 unfold Pg.oth at h
 split at h <;> split at h <;> (try split at h) <;> (try split at h) <;> omega
theorem take_swap {l : List Int} {a b k : Nat} (ha : k ≤ a) (hb : k ≤ b) (x y : Int) : ((l.set a x).set b y).take k = l.take k := by
 rw [List.take_set_of_le hb, List.take_set_of_le ha]
theorem take_sw {p : Pg.Pr} {n a b : Nat} (hn : n < p.funcs.length) (ha : a < (p.funcs.getD n Pg.fn0).locals.length) (hb : b < (p.funcs.getD n Pg.fn0).locals.length) (h0 : 0 ≤ (p.funcs.getD n Pg.fn0).params) (pa : (p.funcs.getD n Pg.fn0).params ≤ (a : Int)) (pb : (p.funcs.getD n Pg.fn0).params ≤ (b : Int)) (h : takeP p = .ok ()) : takeP (p.sw n a b) = .ok () := by
 obtain ⟨h1, h2, h3, h4, h5⟩ := take_inv h
 obtain ⟨f, hf⟩ : ∃ f, f = p.funcs.getD n Pg.fn0 := ⟨_, rfl⟩
 rw [← hf] at ha hb h0 pa pb
 have hfm : f ∈ p.funcs := by
  rw [hf, List.getD_eq_getElem?_getD, List.getElem?_eq_getElem hn]; exact List.getElem_mem hn
 obtain ⟨k1, k2, k3, k4⟩ := head_ok (heads_mem h4 f hfm)
 have hl32 : f.locals.length ≤ 32 := by
  have h9 := heads_mem h4 f hfm
  unfold head at h9
  obtain ⟨h9, _⟩ := must_ok h9
  simpa using h9
 have e1 : (p.sw n a b).err = 0 := by rw [Pg.Pr.sw_err (by rw [← hf]; exact ha) (by rw [← hf]; exact hb) (by rw [← hf]; exact hl32)]; exact h1
 have e3 : 0 < (p.sw n a b).funcs.length ∧ (p.sw n a b).funcs.length ≤ 32 := by unfold Pg.Pr.sw; simpa using h3
 rw [take_4 e1 h2 e3]
 have eT : (of (p.sw n a b)).T = (of p).T := rfl
 have eN : (of (p.sw n a b)).n = (of p).n := rfl
 have eF : (of (p.sw n a b)).fs = p.funcs.set n (f.sw a b) := by rw [hf]; rfl
 have hgg : ∀ i, ((p.funcs.set n (f.sw a b)).getD i Pg.fn0).params = (p.funcs.getD i Pg.fn0).params ∧ ((p.funcs.set n (f.sw a b)).getD i Pg.fn0).results = (p.funcs.getD i Pg.fn0).results ∧ ((p.funcs.set n (f.sw a b)).getD i Pg.fn0).locals.take ((p.funcs.set n (f.sw a b)).getD i Pg.fn0).params.toNat = (p.funcs.getD i Pg.fn0).locals.take (p.funcs.getD i Pg.fn0).params.toNat := by
  intro i
  by_cases hi : n = i
  ·subst hi
   rw [show (p.funcs.set n (f.sw a b)).getD n Pg.fn0 = f.sw a b by rw [List.getD_eq_getElem?_getD, List.getElem?_set, if_pos rfl, if_pos hn]; rfl, ← hf]
   exact ⟨rfl, rfl, take_swap (by show f.params.toNat ≤ a; omega) (by show f.params.toNat ≤ b; omega) _ _⟩
  ·rw [show (p.funcs.set n (f.sw a b)).getD i Pg.fn0 = p.funcs.getD i Pg.fn0 by rw [List.getD_eq_getElem?_getD, List.getD_eq_getElem?_getD, List.getElem?_set, if_neg hi]]
   exact ⟨rfl, rfl, rfl⟩
 have hSw0 : ∀ g : Pg.Fn, Sw { of p with f := g } { of (p.sw n a b) with f := g } id := fun g =>
  ⟨rfl, rfl, by show (of (p.sw n a b)).fs.length = _; rw [eF, List.length_set]; rfl, fun i => by show ((of (p.sw n a b)).fs.getD i Pg.fn0).params = _ ∧ _; rw [eF]; exact hgg i, rfl, rfl, fun _ => rfl, fun _ _ h => h, fun _ _ => rfl⟩
 have hSw1 : Sw { of p with f := f } { of (p.sw n a b) with f := f.sw a b } (Pg.oth a b) := by
  refine ⟨rfl, rfl, by show (of (p.sw n a b)).fs.length = _; rw [eF, List.length_set]; rfl, fun i => by show ((of (p.sw n a b)).fs.getD i Pg.fn0).params = _ ∧ _; rw [eF]; exact hgg i, ?_, rfl, fun x => ?_, oth_inj, fun x hx => ?_⟩
  ·show ((f.locals.set a _).set b _).length = f.locals.length
   simp
  ·show Ty.nmB f.locals.length (Pg.oth a b x) = Ty.nmB f.locals.length x
   rw [Bool.eq_iff_iff, Ty.nmB_iff, Ty.nmB_iff]
   unfold Pg.oth
   split
   ·omega
   ·split <;> omega
  ·have hx2 := Ty.nmB_iff.1 hx
   show ((f.locals.set a (f.locals.getD b 0)).set b (f.locals.getD a 0)).getD (Pg.oth a b x).toNat 0 = f.locals.getD x.toNat 0
   have hx3 : x.toNat < f.locals.length := by
    have := hx2.1; have := hx2.2
    show x.toNat < f.locals.length
    have h7 : x < (f.locals.length : Int) := hx2.2
    omega
   rw [List.getD_eq_getElem?_getD, List.getElem?_set, List.length_set, List.getElem?_set]
   unfold Pg.oth
   by_cases hxa : x = a
   ·subst hxa
    simp only [if_true, Int.toNat_natCast]
    rw [if_pos hb]
    rfl
   ·rw [if_neg hxa]
    by_cases hxb : x = b
    ·subst hxb
     simp only [if_true, Int.toNat_natCast]
     rw [if_neg (by omega), if_pos ha]
     rfl
    ·have h7 := hx2.1
     rw [if_neg hxb, if_neg (by omega), if_neg (by omega), ← List.getD_eq_getElem?_getD]
 have eh : heads (of (p.sw n a b)) true (p.sw n a b).funcs = heads (of p) true p.funcs := by
  have e9 : ∀ (z : Bool) (l : List Pg.Fn), heads (of (p.sw n a b)) z l = heads (of p) z l := by
   intro z l
   induction l generalizing z with
   | nil => rfl
   | cons g l ih => rw [heads, heads, ih]; rfl
  rw [e9, show (p.sw n a b).funcs = p.funcs.set n (f.sw a b) by rw [hf]; rfl]
  refine heads_set _ _ _ _ ?_ ?_
  ·rw [← hf]
   unfold head Pg.Fn.sw
   simp only [List.length_set, Pg.all_swap ha hb]
  ·rw [← hf]
   unfold first Pg.Fn.sw
   simp only
   rw [take_swap (by omega) (by omega)]
 have eb : bodies (of (p.sw n a b)) (p.sw n a b).funcs = bodies (of p) p.funcs := by
  rw [show (p.sw n a b).funcs = p.funcs.set n (f.sw a b) by rw [hf]; rfl]
  refine bodies_set _ _ _ (fun g hg => ?_) (fun _ => ?_)
  ·have h8 := sms_sw (s := id) g.body 0 (fun y _ lp => sm_sw (hSw0 g) y lp)
   rw [Pg.swSs_id g.body (fun y _ => Pg.St.sw_id y)] at h8
   exact h8
  ·rw [← hf]
   exact ⟨sms_sw f.body 0 (fun y _ lp => sm_sw hSw1 y lp), ens_sw _ f.body fun y _ => en_sw _ y⟩
 rw [eh, eb, h4, h5]
 rfl
end Ck
end Go.Proofs.YtpcgkggpmipiaaaGreat
namespace Go.Proofs.YtpcgkggpmipiaaaGreat
open Go.RowKit
set_option linter.unusedVariables false
namespace Ck
end Ck
end Go.Proofs.YtpcgkggpmipiaaaGreat
namespace Go.Proofs.YtpcgkggpmipiaaaGreat
set_option maxRecDepth 100000
set_option maxHeartbeats 32000000
open Go.RowKit
set_option linter.unusedVariables false
end Go.Proofs.YtpcgkggpmipiaaaGreat
namespace Go.Proofs.YtpcgkggpmipiaaaGreat
open Go.RowKit
set_option linter.unusedVariables false
end Go.Proofs.YtpcgkggpmipiaaaGreat
namespace Go.Proofs.YtpcgkggpmipiaaaGreat
open Go.RowKit
set_option linter.unusedVariables false
set_option maxRecDepth 100000
set_option maxHeartbeats 4000000
end Go.Proofs.YtpcgkggpmipiaaaGreat
