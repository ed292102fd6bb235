/- Contracts and plain facts that the walks share. -/
import Derived.Test.YtcfpnojbhojagaaGreatG22
import Derived.Test.YtcfpnojbhojagaaGreatG6
import Derived.Test.YtcfpnojbhojagaaGreatPgW2
import Derived.Test.YtcfpnojbhojagaaGreatG4
import Derived.Test.YtcfpnojbhojagaaGreatG8
import Derived.Test.YtcfpnojbhojagaaGreatG2
import Derived.Laws.BitsAllLaws
namespace Go.Proofs.YtcfpnojbhojagaaGreat
open Go.RowKit
set_option linter.unusedVariables false
inductive ExR : Pg.Ex → Prop
  | mk {op t n : Int} {s : ByteArray} {args : List Pg.Ex} (rg : R64 n) (all : ∀ y, y ∈ args → ExR y) : ExR (.mk op t n s args)
inductive StR : Pg.St → Prop
  | mk {op n : Int} {args : List Pg.Ex} {dst : List Int} {a b : List Pg.St} (rg : R64 n) (h1 : ∀ y, y ∈ args → ExR y) (h2 : ∀ y, y ∈ a → StR y) (h3 : ∀ y, y ∈ b → StR y) : StR (.mk op n args dst a b)
theorem ExAt.rr {B : Nat → Prop} {W : World} : ∀ {b o : Nat} {x : Pg.Ex}, ExAt B W b o x → ExR x
  | _, _, _, .mk c0 c1 c2 c3 c4 rg sz nil le max fits pl all => .mk rg fun y hy => by
    obtain ⟨i, hi⟩ := List.getElem?_of_mem hy
    exact ExAt.rr (all i y hi)
theorem ExL.rr {B : Nat → Prop} {W : World} {a : Option Addr} {c : Nat} {l : List Pg.Ex} (h : ExL B W a c l) : ∀ y, y ∈ l → ExR y := fun y hy => by
  rcases h.lie with h0 | ⟨b, o, _, _, hx⟩
  · rw [h0] at hy; simp at hy
  · obtain ⟨i, hi⟩ := List.getElem?_of_mem hy
    exact (hx i y hi).rr
theorem StAt.rr {B : Nat → Prop} {W : World} : ∀ {b o : Nat} {x : Pg.St}, StAt B W b o x → StR x
  | _, _, _, .mk c0 c1 c2 c3 c4 c5 rg h1 h2 n3 l3 m3 f3 p3 q3 n4 l4 m4 f4 p4 q4 => .mk rg h1.rr (fun y hy => by
    obtain ⟨i, hi⟩ := List.getElem?_of_mem hy
    exact StAt.rr (q3 i y hi)) (fun y hy => by
    obtain ⟨i, hi⟩ := List.getElem?_of_mem hy
    exact StAt.rr (q4 i y hi))
theorem StL.rr {B : Nat → Prop} {W : World} {a : Option Addr} {c : Nat} {l : List Pg.St} (h : StL B W a c l) : ∀ y, y ∈ l → StR y := fun y hy => by
  rcases h.lie with h0 | ⟨b, o, _, _, hx⟩
  · rw [h0] at hy; simp at hy
  · obtain ⟨i, hi⟩ := List.getElem?_of_mem hy
    exact (hx i y hi).rr
theorem FnL.rr {B : Nat → Prop} {W : World} {a : Option Addr} {c : Nat} {l : List Pg.Fn} (h : FnL B W a c l) : ∀ f, f ∈ l → ∀ y, y ∈ f.body → StR y := fun f hf => by
  rcases h.lie with h0 | ⟨b, o, _, _, hx⟩
  · rw [h0] at hf; simp at hf
  · obtain ⟨i, hi⟩ := List.getElem?_of_mem hf
    obtain ⟨_, _, _, _, _, _, he⟩ := hx i f hi
    exact he.b.rr
namespace Pg
theorem cnt_may (n : Int) : (dCnt n).may = okB n := rfl
theorem cnt_len (n : Int) : (dCnt n).en.length ≤ 5 := by
  unfold dCnt
  by_cases h : okB n = true
  · simp only [h, if_true]
    refine grp_len 4 _ ?_
    have : 0 ≤ n ∧ n < 2147483648 := by simpa [okB] using h
    have h2 : (2147483648 : Nat) ≤ 128 ^ 5 := by decide
    omega
  · simp [h]
theorem num_len {n : Int} (h : R64 n) : (dNum n).en.length ≤ 10 := by
  refine grp_len 9 _ ?_
  have := zig_lt h
  have h2 : (18446744073709551616 : Nat) ≤ 128 ^ 10 := by decide
  omega
theorem txt_en (s : ByteArray) : (dTxt s).en.length ≤ 258 := by
  unfold dTxt
  by_cases h : s.size ≤ 256
  · rw [if_pos h, List.length_append, txt_len]
    have := grp_len 1 s.size (by have : (128 : Nat) ^ 2 = 16384 := by decide
                                 omega)
    omega
  · rw [if_neg h]; simp
theorem nums_en (l : List Int) : (dNumL l).en.length ≤ 5 + 5 * l.length := by
  have h1 := cnt_len (l.length : Int)
  have h2 : ∀ l : List Int, (dNums l).en.length ≤ 5 * l.length := by
    intro l
    induction l with
    | nil => simp [dNums, Dl.nil]
    | cons n l ih => have := cnt_len n; simp only [dNums, Dl.app, List.length_append, List.length_cons]; omega
  have := h2 l
  simp only [dNumL, Dl.app, List.length_append]
  omega
theorem nums_may {l : List Int} (h : l.length < 2147483648) : (dNumL l).may = l.all okB := by
  have h2 : ∀ l : List Int, (dNums l).may = l.all okB := by
    intro l
    induction l with
    | nil => rfl
    | cons n l ih => simp only [dNums, Dl.app, ih, List.all_cons]; rfl
  have h1 : okB (l.length : Int) = true := by simp [okB]; omega
  simp only [dNumL, Dl.app, h2]
  rw [cnt_may (l.length : Int), h1, Bool.true_and]
def Bd (d : Dl) (w : Int) (may : Bool) : Prop := 0 ≤ w ∧ (d.nd : Int) ≤ w ∧ d.dp ≤ d.nd ∧ (d.en.length : Int) ≤ 300 * w ∧ (w ≤ 1000000 → d.may = may)
theorem es_bd : ∀ l : List Ex, (∀ y, y ∈ l → Bd y.dl y.w y.may ∧ 1 ≤ y.w) → Bd (dCat Ex.dl l) (wEs l) (l.all Ex.may) ∧ (l.length : Int) ≤ wEs l
  | [], _ => ⟨⟨by simp [wEs], by simp [dCat, Dl.nil, wEs], by simp [dCat, Dl.nil], by simp [dCat, Dl.nil, wEs], fun _ => rfl⟩, by simp [wEs]⟩
  | x :: l, h => by
    obtain ⟨⟨a1, a2, a3, a4, a5⟩, a6⟩ := h x (by simp)
    obtain ⟨⟨b1, b2, b3, b4, b5⟩, b6⟩ := es_bd l (fun y hy => h y (by simp [hy]))
    refine ⟨⟨?_, ?_, ?_, ?_, fun hw => ?_⟩, ?_⟩
    · simp only [wEs]; omega
    · simp only [wEs, dCat, Dl.app]; omega
    · simp only [dCat, Dl.app]; omega
    · simp only [wEs, dCat, Dl.app, List.length_append]; omega
    · simp only [wEs] at hw
      simp only [dCat, Dl.app, List.all_cons, a5 (by omega), b5 (by omega)]
    · simp only [wEs, List.length_cons]; omega
theorem ex_bd (x : Ex) : ExR x → Bd x.dl x.w x.may ∧ 1 ≤ x.w := by
  refine Ex.ind (P := fun x => ExR x → Bd x.dl x.w x.may ∧ 1 ≤ x.w) ?_ x
  intro op t n s args ih hr
  cases hr with
  | mk rg all =>
    obtain ⟨⟨b1, b2, b3, b4, b5⟩, b6⟩ := es_bd args (fun y hy => ih y hy (all y hy))
    have e := Ex.dl_eq (.mk op t n s args)
    have hw := Ex.w_eq (.mk op t n s args)
    have hm := Ex.may_eq (.mk op t n s args)
    have nd := Ex.nd_eq (.mk op t n s args)
    simp only [Ex.op, Ex.t, Ex.n, Ex.s, Ex.args] at e hw hm nd
    have hs : 0 ≤ (s.size : Int) / 16 := by omega
    refine ⟨⟨by omega, by omega, by omega, ?_, fun h => ?_⟩, by omega⟩
    · have q1 := cnt_len op
      have q2 := cnt_len t
      have q3 := num_len rg
      have q4 := txt_en s
      have q5 := cnt_len (args.length : Int)
      rw [e]
      simp only [Dl.node, Dl.app, List.length_append, dExL, dEs_cat]
      omega
    · rw [e, hm]
      have q5 : okB (args.length : Int) = true := by simp [okB]; omega
      simp only [Dl.node, Dl.app, dExL, dEs_cat, b5 (by omega)]
      rw [cnt_may (args.length : Int), q5, cnt_may op, cnt_may t, show (dNum n).may = true from rfl]
      have ht : (dTxt s).may = decide ((s.size : Int) ≤ 256) := by
        unfold dTxt
        by_cases h : s.size ≤ 256
        · rw [if_pos h]; exact (decide_eq_true (by omega)).symm
        · rw [if_neg h]; exact (decide_eq_false (by omega)).symm
      rw [ht]
      by_cases h256 : (s.size : Int) ≤ 256
      · have e1 : ∀ {i : Decidable ((s.size : Int) ≤ 256)}, @decide ((s.size : Int) ≤ 256) i = true := fun {i} => @decide_eq_true _ i h256
        simp only [e1]
        cases okB op <;> cases okB t <;> cases (args.all Ex.may) <;> first | rfl | (simp; exact decide_eq_true h256)
      · have e1 : ∀ {i : Decidable ((s.size : Int) ≤ 256)}, @decide ((s.size : Int) ≤ 256) i = false := fun {i} => @decide_eq_false _ i h256
        simp only [e1]
        cases okB op <;> cases okB t <;> cases (args.all Ex.may) <;> first | rfl | (simp; exact decide_eq_false h256)
theorem ss_bd : ∀ l : List St, (∀ y, y ∈ l → Bd y.dl y.w y.may ∧ 1 ≤ y.w) → Bd (dCat St.dl l) (wSs l) (l.all St.may) ∧ (l.length : Int) ≤ wSs l
  | [], _ => ⟨⟨by simp [wSs], by simp [dCat, Dl.nil, wSs], by simp [dCat, Dl.nil], by simp [dCat, Dl.nil, wSs], fun _ => rfl⟩, by simp [wSs]⟩
  | x :: l, h => by
    obtain ⟨⟨a1, a2, a3, a4, a5⟩, a6⟩ := h x (by simp)
    obtain ⟨⟨b1, b2, b3, b4, b5⟩, b6⟩ := ss_bd l (fun y hy => h y (by simp [hy]))
    refine ⟨⟨?_, ?_, ?_, ?_, fun hw => ?_⟩, ?_⟩
    · simp only [wSs]; omega
    · simp only [wSs, dCat, Dl.app]; omega
    · simp only [dCat, Dl.app]; omega
    · simp only [wSs, dCat, Dl.app, List.length_append]; omega
    · simp only [wSs] at hw
      simp only [dCat, Dl.app, List.all_cons, a5 (by omega), b5 (by omega)]
    · simp only [wSs, List.length_cons]; omega
theorem okL {n : Nat} (h : (n : Int) ≤ 1000000) : okB (n : Int) = true := by simp [okB]; omega
theorem st_bd (x : St) : StR x → Bd x.dl x.w x.may ∧ 1 ≤ x.w := by
  refine St.ind (P := fun x => StR x → Bd x.dl x.w x.may ∧ 1 ≤ x.w) ?_ x
  intro op n args dst a b ia ib hr
  cases hr with
  | mk rg h1 h2 h3 =>
    obtain ⟨⟨b1, b2, b3, b4, b5⟩, b6⟩ := es_bd args (fun y hy => ex_bd y (h1 y hy))
    obtain ⟨⟨c1, c2, c3, c4, c5⟩, c6⟩ := ss_bd a (fun y hy => ia y hy (h2 y hy))
    obtain ⟨⟨d1, d2, d3, d4, d5⟩, d6⟩ := ss_bd b (fun y hy => ib y hy (h3 y hy))
    have e := St.dl_eq (.mk op n args dst a b)
    have hw := St.w_eq (.mk op n args dst a b)
    have hm := St.may_eq (.mk op n args dst a b)
    have nd := St.nd_eq (.mk op n args dst a b)
    simp only [St.op, St.n, St.args, St.dst, St.a, St.b] at e hw hm nd
    refine ⟨⟨by omega, by omega, by omega, ?_, fun h => ?_⟩, by omega⟩
    · have q1 := cnt_len op
      have q3 := num_len rg
      have q4 := nums_en dst
      have q5 := cnt_len (args.length : Int)
      have q6 := cnt_len (a.length : Int)
      have q7 := cnt_len (b.length : Int)
      rw [e]
      simp only [Dl.node, Dl.app, List.length_append, dExL, dEs_cat, dStL, dSs_cat]
      omega
    · rw [e, hm]
      simp only [Dl.node, Dl.app, dExL, dEs_cat, dStL, dSs_cat, b5 (by omega), c5 (by omega), d5 (by omega), nums_may (l := dst) (by omega)]
      rw [cnt_may (args.length : Int), okL (by omega), cnt_may (a.length : Int), okL (by omega), cnt_may (b.length : Int), okL (by omega), cnt_may op, show (dNum n).may = true from rfl]
      cases okB op <;> cases (args.all Ex.may) <;> cases (dst.all okB) <;> simp
theorem ts_bd : ∀ l : List Tp, 0 ≤ wTs l ∧ ((dCat Tp.dl l).en.length : Int) ≤ 300 * (wTs l + l.length) ∧ (wTs l ≤ 1000000 → (dCat Tp.dl l).may = l.all Tp.may)
  | [] => ⟨by simp [wTs], by simp [dCat, Dl.nil, wTs], fun _ => rfl⟩
  | x :: l => by
    obtain ⟨a1, a2, a3⟩ := ts_bd l
    have q1 := cnt_len x.kind
    have q2 := cnt_len x.elem
    have q3 := cnt_len x.n
    have q4 := nums_en x.fields
    refine ⟨by simp only [wTs]; omega, ?_, fun h => ?_⟩
    · simp only [wTs, dCat, Dl.app, Tp.dl, List.length_append, List.length_cons]; omega
    · simp only [wTs] at h
      simp only [dCat, Dl.app, Tp.dl, List.all_cons, Tp.may, a3 (by omega), nums_may (l := x.fields) (by omega)]
      rfl
theorem fs_bd : ∀ l : List Fn, (∀ f, f ∈ l → ∀ y, y ∈ f.body → StR y) → 0 ≤ wFs l ∧ ((dCat Fn.dl l).nd : Int) ≤ wFs l ∧ (dCat Fn.dl l).dp ≤ (dCat Fn.dl l).nd ∧ ((dCat Fn.dl l).en.length : Int) ≤ 300 * (wFs l + l.length) ∧ (wFs l ≤ 1000000 → (dCat Fn.dl l).may = l.all Fn.may)
  | [], _ => ⟨by simp [wFs], by simp [dCat, Dl.nil, wFs], by simp [dCat, Dl.nil], by simp [dCat, Dl.nil, wFs], fun _ => rfl⟩
  | x :: l, h => by
    obtain ⟨a1, a2, a3, a4, a5⟩ := fs_bd l (fun f hf => h f (by simp [hf]))
    obtain ⟨⟨b1, b2, b3, b4, b5⟩, b6⟩ := ss_bd x.body (fun y hy => st_bd y (h x (by simp) y hy))
    have q1 := cnt_len x.params
    have q2 := nums_en x.locals
    have q3 := nums_en x.results
    have q4 := cnt_len (x.body.length : Int)
    have nd := Fn.nd_eq x
    refine ⟨by simp only [wFs, Fn.w]; omega, ?_, ?_, ?_, fun h => ?_⟩
    · simp only [wFs, Fn.w, dCat, Dl.app]; omega
    · simp only [dCat, Dl.app]; omega
    · simp only [wFs, Fn.w, dCat, Dl.app, Fn.dl, List.length_append, List.length_cons, dStL, dSs_cat]; omega
    · simp only [wFs, Fn.w] at h
      simp only [dCat, Dl.app, Fn.dl, List.all_cons, Fn.may, a5 (by omega), nums_may (l := x.locals) (by omega), nums_may (l := x.results) (by omega), dStL, dSs_cat, b5 (by omega)]
      rw [cnt_may (x.body.length : Int), okL (by omega), cnt_may x.params, Bool.true_and]
theorem pr_bd (p : Pr) (h : ∀ f, f ∈ p.funcs → ∀ y, y ∈ f.body → StR y) (hw : p.w ≤ 1000000) : p.dl.nd ≤ 1000000 ∧ p.dl.dp ≤ p.dl.nd ∧ p.dl.en.length ≤ 600000020 ∧ p.dl.may = p.may := by
  obtain ⟨a1, a2, a3⟩ := ts_bd p.types
  obtain ⟨b1, b2, b3, b4, b5⟩ := fs_bd p.funcs h
  have nd := Pr.nd_eq p
  have q1 := cnt_len (p.types.length : Int)
  have q2 := cnt_len (p.funcs.length : Int)
  unfold Pr.w at hw
  refine ⟨by omega, by omega, ?_, ?_⟩
  · simp only [Pr.dl, Dl.app, List.length_append, dTs_cat, dFs_cat]; omega
  · simp only [Pr.dl, Dl.app, dTs_cat, dFs_cat, Pr.may, a3 (by omega), b5 (by omega)]
    rw [cnt_may (p.types.length : Int), okL (by omega), cnt_may (p.funcs.length : Int), okL (by omega), Bool.true_and, Bool.true_and]
theorem pr_err (p : Pr) (hm : p.dl.may = p.may) : p.err = p.rerr := by
  unfold Pr.err Pr.rerr Ws.err Ws.on
  simp only [hm, Bool.false_or, Nat.zero_add, Nat.zero_max]
  cases p.may <;> simp
end Pg
theorem pr_rm {B : Nat → Prop} {w : World} {p : Pg.Pr} {a1 a2 : Option Addr} {k1 k2 : Nat} (h : PrC B w p a1 a2 k1 k2) (hw : p.w ≤ 60000) : Rm ⟨false, 0, 0, 0⟩ [] p.dl ∧ p.dl.nd ≤ 100000000 ∧ p.dl.en.length ≤ 1000000000 ∧ p.err = p.rerr ∧ p.dl.may = p.may := by
  obtain ⟨q1, q2, q3, q4⟩ := Pg.pr_bd p h.f.rr (by omega)
  have q5 : (p.dl.nd : Int) ≤ 60000 := by
    obtain ⟨a1, _, _⟩ := Pg.ts_bd p.types
    obtain ⟨b1, b2, _, _, _⟩ := Pg.fs_bd p.funcs h.f.rr
    have nd := Pg.Pr.nd_eq p
    unfold Pg.Pr.w at hw
    omega
  refine ⟨⟨?_, ?_, ?_⟩, by omega, by omega, Pg.pr_err p q4, q4⟩
  · show 0 + p.dl.nd < _; omega
  · show 0 + p.dl.dp < _; omega
  · simp only [List.length_nil]; omega
end Go.Proofs.YtcfpnojbhojagaaGreat
namespace Go.Proofs.YtcfpnojbhojagaaGreat
open Go.RowKit
set_option linter.unusedVariables false
set_option maxRecDepth 10000
namespace Ck
structure Le (c d : En) : Prop where
 n : c.n ≤ d.n
 T : ∀ i, i < c.n → d.T i = c.T i
 f : d.f = c.f
 fs : ∃ m, d.fs = c.fs ++ m
def inR (c : En) (i : Int) : Prop := 0 ≤ i ∧ i < (c.n : Int)
theorem Le.at {c d : En} (h : Le c d) {i : Int} (hi : inR c i) : d.T i.toNat = c.T i.toNat := h.T _ (by have := hi.1; have := hi.2; omega)
theorem Le.kd {c d : En} (h : Le c d) {i : Int} (hi : inR c i) : Ck.kd d i = Ck.kd c i := by unfold Ck.kd; rw [h.at hi]
theorem Le.el {c d : En} (h : Le c d) {i : Int} (hi : inR c i) : Ck.el d i = Ck.el c i := by unfold Ck.el; rw [h.at hi]
theorem Le.fd {c d : En} (h : Le c d) {i : Int} (hi : inR c i) : Ck.fd d i = Ck.fd c i := by unfold Ck.fd; rw [h.at hi]
theorem Le.ent {c d : En} (h : Le c d) {i : Int} (hi : Ck.ent c i = true) : Ck.ent d i = true := by
 unfold Ck.ent at hi ⊢
 have := Ty.nmB_iff.1 hi
 have := h.n
 exact Ty.nmB_iff.2 ⟨by omega, by omega⟩
theorem Le.val {c d : En} (h : Le c d) {i : Int} (hi : inR c i) : Ck.val d i = Ck.val c i := by
 unfold Ck.val
 have h1 := hi.1
 have h2 := hi.2
 have h3 := h.n
 rw [show Ty.nmB (d.n : Int) i = true from Ty.nmB_iff.2 ⟨h1, by omega⟩, show Ty.nmB (c.n : Int) i = true from Ty.nmB_iff.2 ⟨h1, h2⟩, Ty.lie_congr (T := d.T) (U := c.T) fun j hj => h.T j (by omega)]
theorem Le.valT {c d : En} (h : Le c d) {i : Int} (hi : Ck.val c i = true) : Ck.val d i = true := by
 have h1 : inR c i := by
  unfold Ck.val at hi
  simp only [Bool.and_eq_true] at hi
  exact Ty.nmB_iff.1 hi.1
 rw [h.val h1]; exact hi
theorem Le.intK {c d : En} (h : Le c d) {i : Int} (hi : inR c i) : Ck.intK d i = Ck.intK c i := by unfold Ck.intK; rw [h.kd hi]
theorem Le.plainK {c d : En} (h : Le c d) {i : Int} (hi : inR c i) : Ck.plainK d i = Ck.plainK c i := by unfold Ck.plainK; rw [h.kd hi]
theorem Le.listK {c d : En} (h : Le c d) {i : Int} (hi : inR c i) : Ck.listK d i = Ck.listK c i := by unfold Ck.listK; rw [h.kd hi]
theorem Le.ptr {c d : En} (h : Le c d) {i : Int} (hi : inR c i) (to : Int) : Ck.ptr d i to = Ck.ptr c i to := by unfold Ck.ptr; rw [h.kd hi, h.el hi]
theorem Le.fld {c d : En} (h : Le c d) {i : Int} (hi : inR c i) (n : Int) : Ck.fld d i n = Ck.fld c i n := by unfold Ck.fld; rw [h.kd hi, h.at hi]
theorem el_in {c : En} (hc : Wf c) {a : Int} (ha : inR c a) (hk : kd c a = 11) : inR c (el c a) := by
 have h1 := ha.1
 have h2 := ha.2
 exact hc.ptr a.toNat (by omega) hk
theorem getD_in {c : En} (h0 : 0 < c.n) {l : List Int} (hl : ∀ x, x ∈ l → inR c x) (k : Nat) : inR c (l.getD k 0) := by
 rw [List.getD_eq_getElem?_getD]
 by_cases h : k < l.length
 ·rw [List.getElem?_eq_getElem h]; exact hl _ (List.getElem_mem h)
 ·rw [List.getElem?_eq_none (by omega)]
  exact ⟨by simp, by simp; omega⟩
theorem ask_le {c d : En} (hc : Wf c) (h : Le c d) (h0 : 0 < c.n) {op t n : Int} (ht : inR c t) {l : List Int} (hl : ∀ x, x ∈ l → inR c x) : ask d op t n l = ask c op t n l := by
 have ha := getD_in h0 hl 0
 have hb := getD_in h0 hl 1
 have h2 := getD_in h0 hl 2
 unfold ask
 simp only [h.kd ha, h.kd ht, h.el ha, h.plainK ht, h.intK ha, h.intK hb, h.intK h2, h.listK ha, h.f, h.fd ht, h.at ht, h.val ht, h.ptr ht, h.fld ha]
 have e12 : (kd c (l.getD 0 0) == 11 && val d (el c (l.getD 0 0))) = (kd c (l.getD 0 0) == 11 && val c (el c (l.getD 0 0))) := by
  by_cases hk : kd c (l.getD 0 0) = 11
  ·rw [h.val (el_in hc ha hk)]
  ·have : (kd c (l.getD 0 0) == 11) = false := by simpa using hk
   rw [this, Bool.false_and, Bool.false_and]
 have e13 : (do must (kd c (l.getD 0 0) == 11) 93; let f ← fld d (el c (l.getD 0 0)) n; must (ptr c t f) 93; Except.ok t) = (do must (kd c (l.getD 0 0) == 11) 93; let f ← fld c (el c (l.getD 0 0)) n; must (ptr c t f) 93; Except.ok t) := by
  by_cases hk : kd c (l.getD 0 0) = 11
  ·rw [h.fld (el_in hc ha hk)]
  ·have : (kd c (l.getD 0 0) == 11) = false := by simpa using hk
   rw [this]
   rfl
 have e14 : ((if kd c (l.getD 0 0) = 11 then kd d (el c (l.getD 0 0)) == 12 else kd c (l.getD 0 0) == 14) && intK c (l.getD 1 0) && ptr c t (if kd c (l.getD 0 0) = 11 then el d (el c (l.getD 0 0)) else el c (l.getD 0 0))) = ((if kd c (l.getD 0 0) = 11 then kd c (el c (l.getD 0 0)) == 12 else kd c (l.getD 0 0) == 14) && intK c (l.getD 1 0) && ptr c t (if kd c (l.getD 0 0) = 11 then el c (el c (l.getD 0 0)) else el c (l.getD 0 0))) := by
  by_cases hk : kd c (l.getD 0 0) = 11
  ·rw [if_pos hk, if_pos hk, if_pos hk, if_pos hk, h.kd (el_in hc ha hk), h.el (el_in hc ha hk)]
  ·rw [if_neg hk, if_neg hk, if_neg hk, if_neg hk]
 rw [e12, e13, e14]
theorem pre_in {c : En} (h0 : 0 < c.n) {op t n : Int} {sz k : Nat} (h : pre c op t n sz k = .ok ()) : inR c t := by
 unfold pre at h
 split at h
 ·cases h
 ·obtain ⟨h1, h⟩ := must_ok h
  obtain ⟨h2, h⟩ := must_ok h
  rename_i pT pN pS m hr
  simp only [Bool.and_eq_true, Bool.or_eq_true, beq_iff_eq] at h1
  rcases h1.1.1 with h3 | h3
  ·subst h3; exact ⟨by omega, by omega⟩
  ·subst h3
   cases he : ent c t with
   | true => exact Ty.nmB_iff.1 he
   | false => rw [he] at h; cases h
theorem pre_le {c d : En} (hL : Le c d) {op t n : Int} {sz k : Nat} (h : pre c op t n sz k = .ok ()) : pre d op t n sz k = .ok () := by
 unfold pre at h ⊢
 split at h
 ·cases h
 ·rename_i pT pN pS m hr
  obtain ⟨h1, h⟩ := must_ok h
  obtain ⟨h2, h⟩ := must_ok h
  simp only [h1, h2]
  cases pT with
  | false => rfl
  | true =>
   cases he : ent c t with
   | true => rw [hL.ent he]; rfl
   | false => rw [he] at h; cases h
theorem bind_ok {α β : Type} {a : Except Int α} {f : α → Except Int β} {v : β} (h : (a >>= f) = .ok v) : ∃ x, a = .ok x ∧ f x = .ok v := by
 cases a with
 | error e => cases h
 | ok x => exact ⟨x, rfl, h⟩
theorem tms_le {c d : En} : ∀ {l : List Pg.Ex} {vs : List Int}, (∀ y, y ∈ l → ∀ v, tm c y = .ok v → tm d y = .ok v) → tms c l = .ok vs → tms d l = .ok vs
 | [], vs, _, h => h
 | x :: l, vs, ih, h => by
  rw [tms] at h ⊢
  obtain ⟨a, h1, h⟩ := bind_ok h
  obtain ⟨m, h2, h⟩ := bind_ok h
  rw [ih x (by simp) a h1, tms_le (fun y hy => ih y (by simp [hy])) h2]
  exact h
theorem tm_le {c d : En} (hc : Wf c) (hL : Le c d) (h0 : 0 < c.n) : ∀ x : Pg.Ex, ∀ v, tm c x = .ok v → tm d x = .ok v := Pg.Ex.ind (fun op t n s args ih v h => by
 rw [tm] at h ⊢
 obtain ⟨u, h1, h⟩ := bind_ok h
 obtain ⟨l, h2, h⟩ := bind_ok h
 obtain ⟨⟩ := u
 rw [pre_le hL h1, tms_le ih h2]
 show ask d op t n l = _
 rw [ask_le hc hL h0 (pre_in h0 h1) (tms_ent hc h2)]
 exact h)
theorem locs_le {c d : En} (hf : d.f = c.f) : ∀ (l had : List Int), locs d had l = locs c had l
 | [], _ => rfl
 | x :: l, had => by rw [locs, locs, hf, locs_le hf l]
theorem cal_le {c d : En} (hL : Le c d) {n : Int} {dst l : List Int} (h : cal c n dst l = .ok ()) : cal d n dst l = .ok () := by
 obtain ⟨m, hm⟩ := hL.fs
 unfold cal at h ⊢
 obtain ⟨h1, h⟩ := must_ok h
 have hn := Ty.nmB_iff.1 h1
 have e1 : Ty.nmB (d.fs.length : Int) n = true := Ty.nmB_iff.2 ⟨hn.1, by rw [hm, List.length_append]; omega⟩
 have e2 : d.fs.getD n.toNat ⟨0, [], [], []⟩ = c.fs.getD n.toNat ⟨0, [], [], []⟩ := by
  rw [hm, List.getD_eq_getElem?_getD, List.getD_eq_getElem?_getD, List.getElem?_append_left (by omega)]
 rw [e1, e2, locs_le hL.f, hL.f]
 exact h
theorem sask_le {c d : En} (hL : Le c d) (h0 : 0 < c.n) {lp : Nat} {op n : Int} {dst l : List Int} (hl : ∀ x, x ∈ l → inR c x) (h : sask c lp op n dst l = .ok ()) : sask d lp op n dst l = .ok () := by
 have ha := getD_in h0 hl 0
 unfold sask at h ⊢
 simp only [hL.f, hL.ptr ha, hL.kd ha, hL.plainK ha]
 by_cases h1 : op = 1
 ·rw [if_pos h1] at h ⊢; exact h
 rw [if_neg h1] at h ⊢
 by_cases h2 : op = 2
 ·rw [if_pos h2] at h ⊢; exact h
 rw [if_neg h2] at h ⊢
 by_cases h3 : op = 3
 ·rw [if_pos h3] at h ⊢; exact h
 rw [if_neg h3] at h ⊢
 by_cases h4 : op = 4
 ·rw [if_pos h4]
 rw [if_neg h4] at h ⊢
 by_cases h5 : op = 5 ∨ op = 6
 ·rw [if_pos h5] at h ⊢; exact h
 rw [if_neg h5] at h ⊢
 by_cases h7 : op = 7
 ·rw [if_pos h7] at h ⊢; exact h
 rw [if_neg h7] at h ⊢
 by_cases h8 : op = 8
 ·rw [if_pos h8] at h ⊢; exact h
 rw [if_neg h8] at h ⊢
 by_cases h9 : op = 9
 ·rw [if_pos h9] at h ⊢; exact h
 rw [if_neg h9] at h ⊢
 exact cal_le hL h
theorem sms_le {c d : En} : ∀ {l : List Pg.St} {lp : Nat}, (∀ y, y ∈ l → ∀ lp, sm c lp y = .ok () → sm d lp y = .ok ()) → sms c lp l = .ok () → sms d lp l = .ok ()
 | [], lp, _, h => h
 | x :: l, lp, ih, h => by
  rw [sms] at h ⊢
  obtain ⟨u, h1, h⟩ := bind_ok h
  obtain ⟨⟩ := u
  rw [ih x (by simp) lp h1]
  exact sms_le (fun y hy => ih y (by simp [hy])) h
theorem sm_le {c d : En} (hc : Wf c) (hL : Le c d) (h0 : 0 < c.n) : ∀ x : Pg.St, ∀ lp, sm c lp x = .ok () → sm d lp x = .ok () := Pg.St.ind (fun op n args dst a b iha ihb lp h => by
 rw [sm] at h ⊢
 obtain ⟨u, h1, h⟩ := bind_ok h
 obtain ⟨l, h2, h⟩ := bind_ok h
 obtain ⟨u2, h3, h⟩ := bind_ok h
 obtain ⟨u3, h4, h⟩ := bind_ok h
 obtain ⟨⟩ := u
 obtain ⟨⟩ := u2
 obtain ⟨⟩ := u3
 rw [h1, tms_le (fun y _ => tm_le hc hL h0 y) h2]
 show (do sask d lp op n dst l; sms d _ a; sms d _ b) = _
 rw [sask_le hL h0 (tms_ent hc h2) h3, show sms d (if op = 4 then lp + 1 else lp) a = .ok () from sms_le iha h4]
 exact sms_le ihb h)
theorem bodies_le {c d : En} (hL : Le c d) (h0 : 0 < c.n) : ∀ {l : List Pg.Fn}, (∀ f, f ∈ l → Wf { c with f := f }) → bodies c l = .ok () → bodies d l = .ok ()
 | [], _, h => h
 | f :: l, hw, h => by
  rw [bodies] at h ⊢
  obtain ⟨u, h1, h⟩ := bind_ok h
  obtain ⟨u2, h2, h⟩ := bind_ok h
  obtain ⟨⟩ := u
  obtain ⟨⟩ := u2
  have hLf : Le { c with f := f } { d with f := f } := ⟨hL.n, hL.T, rfl, hL.fs⟩
  rw [sms_le (fun y _ lp => sm_le (hw f (by simp)) hLf h0 y lp) h1]
  show (do must (ens f.body) 99; bodies d l) = _
  rw [h2]
  exact bodies_le hL h0 (fun g hg => hw g (by simp [hg])) h
theorem all_le {p q : Int → Bool} {l : List Int} (h : ∀ x, p x = true → q x = true) (hl : l.all p = true) : l.all q = true := by
 rw [List.all_eq_true] at hl ⊢
 exact fun x hx => h x (hl x hx)
theorem head_le {c d : En} (hL : Le c d) {f : Pg.Fn} (h : head c f = .ok ()) : head d f = .ok () := by
 unfold head at h ⊢
 obtain ⟨h1, h⟩ := must_ok h
 obtain ⟨h2, h⟩ := must_ok h
 obtain ⟨h3, h⟩ := must_ok h
 obtain ⟨h4, h⟩ := must_ok h
 obtain ⟨h5, h⟩ := must_ok h
 have h6 : f.results.all (val c) = true := by
  cases h7 : f.results.all (val c) with
  | true => rfl
  | false => rw [h7] at h; cases h
 rw [h1, h2, all_le (fun x hx => hL.ent hx) h3, all_le (fun x hx => hL.valT hx) h4, h5, all_le (fun x hx => hL.valT hx) h6]
 rfl
theorem first_le {c d : En} (hL : Le c d) (h0 : 0 < c.n) {f : Pg.Fn} (hl : ∀ x, x ∈ f.locals → inR c x) (hr : ∀ x, x ∈ f.results → inR c x) (h : first c f = .ok ()) : first d f = .ok () := by
 unfold first at h ⊢
 obtain ⟨h1, h⟩ := must_ok h
 rw [hL.kd (getD_in h0 hr 0), h1]
 have h6 : (decide (f.params ≤ 6) && (f.locals.take f.params.toNat).all (plainK c)) = true := by
  cases h7 : (decide (f.params ≤ 6) && (f.locals.take f.params.toNat).all (plainK c)) with
  | true => rfl
  | false => rw [h7] at h; cases h
 have h8 : (decide (f.params ≤ 6) && (f.locals.take f.params.toNat).all (plainK d)) = true := by
  simp only [Bool.and_eq_true] at h6 ⊢
  refine ⟨h6.1, ?_⟩
  rw [List.all_eq_true]
  intro x hx
  rw [hL.plainK (hl x (List.mem_of_mem_take hx))]
  exact List.all_eq_true.1 h6.2 x hx
 rw [h8]
 rfl
theorem heads_le {c d : En} (hL : Le c d) (h0 : 0 < c.n) : ∀ {l : List Pg.Fn} {z : Bool}, heads c z l = .ok () → heads d z l = .ok ()
 | [], z, h => h
 | f :: l, z, h => by
  rw [heads] at h ⊢
  obtain ⟨u, h1, h⟩ := bind_ok h
  obtain ⟨⟩ := u
  obtain ⟨_, _, e3, e4⟩ := head_ok h1
  rw [head_le hL h1]
  cases z with
  | false => exact heads_le hL h0 h
  | true =>
   obtain ⟨u2, h2, h⟩ := bind_ok (a := first c f) (f := fun _ => heads c false l) h
   obtain ⟨⟩ := u2
   have h9 : first d f = .ok () := first_le hL h0 e3 e4 h2
   show (do first d f; heads d false l) = _
   rw [h9]
   exact heads_le hL h0 h
theorem take_inv {p : Pg.Pr} (h : takeP p = .ok ()) : p.err = 0 ∧ Ty.chk (Pg.tab p.types) p.types.length = 0 ∧ (0 < p.funcs.length ∧ p.funcs.length ≤ 32) ∧ heads (of p) true p.funcs = .ok () ∧ bodies (of p) p.funcs = .ok () := by
 by_cases h1 : p.err = 0
 case neg => rw [take_1 h1] at h; cases h
 by_cases h2 : Ty.chk (Pg.tab p.types) p.types.length = 0
 case neg => rw [take_2 h1 h2] at h; cases h
 by_cases h3 : 0 < p.funcs.length ∧ p.funcs.length ≤ 32
 case neg => rw [take_3 h1 h2 h3] at h; cases h
 rw [take_4 h1 h2 h3] at h
 obtain ⟨u, h4, h5⟩ := bind_ok h
 obtain ⟨⟩ := u
 exact ⟨h1, h2, h3, h4, h5⟩
theorem heads_pos {c : En} : ∀ {l : List Pg.Fn}, l ≠ [] → heads c true l = .ok () → 0 < c.n
 | [], h, _ => absurd rfl h
 | f :: l, _, h => by
  rw [heads] at h
  obtain ⟨u, h1, h⟩ := bind_ok h
  obtain ⟨u2, h2, h⟩ := bind_ok (a := first c f) (f := fun _ => heads c false l) h
  obtain ⟨_, _, _, e4⟩ := head_ok h1
  unfold first at h2
  obtain ⟨h3, _⟩ := must_ok h2
  simp only [Bool.and_eq_true, beq_iff_eq] at h3
  have hx : f.results[0]'(by omega) ∈ f.results := List.getElem_mem _
  have := e4 _ hx
  omega
end Ck
namespace Pg
def u32 : Tp := ⟨8, 0, 0, []⟩
def ret : Fn := ⟨0, [], [], [.mk 7 0 [] [] [] []]⟩
def more (p : Pr) : Pr := ⟨p.types ++ [u32], p.funcs ++ [ret]⟩
theorem dTs_app : ∀ a b : List Tp, dTs (a ++ b) = (dTs a).app (dTs b)
 | [], b => by rw [List.nil_append, dTs, Dl.nil_app]
 | x :: a, b => by rw [List.cons_append, dTs, dTs_app a b, dTs, Dl.app_assoc]
theorem dFs_app : ∀ a b : List Fn, dFs (a ++ b) = (dFs a).app (dFs b)
 | [], b => by rw [List.nil_append, dFs, Dl.nil_app]
 | x :: a, b => by rw [List.cons_append, dFs, dFs_app a b, dFs, Dl.app_assoc]
theorem u32_dl : (dTs [u32]).may = true ∧ (dTs [u32]).nd = 0 ∧ (dTs [u32]).dp = 0 := ⟨by decide, by decide, by decide⟩
theorem ret_dl : (dFs [ret]).may = true ∧ (dFs [ret]).nd = 1 ∧ (dFs [ret]).dp = 1 := by
 simp only [dFs, Fn.dl, ret, dStL, dSs_cat, dCat, St.dl_eq, St.op, St.n, St.args, St.dst, St.a, St.b, dExL, dEs_cat, dNumL, dNums, Dl.app, Dl.nil, Dl.node, dCnt, dNum, List.length_nil, List.length_cons]
 exact ⟨by decide, by decide, by decide⟩
theorem okB_small {n : Nat} (h : n ≤ 1000) : okB (n : Int) = true := by
 unfold okB
 simp only [Bool.and_eq_true, decide_eq_true_eq]
 omega
theorem err_0 {p : Pr} (h : p.err = 0) : p.dl.may = true ∧ p.dl.nd ≤ 2048 ∧ p.dl.dp ≤ 32 := by
 unfold Pr.err Ws.err Ws.on at h
 simp only [Bool.false_or, Nat.zero_add, Nat.zero_max] at h
 cases hm : p.dl.may with
 | false => rw [hm] at h; simp at h
 | true =>
  rw [hm] at h
  by_cases h1 : p.dl.nd ≤ 2048
  ·by_cases h2 : p.dl.dp ≤ 32
   ·exact ⟨rfl, h1, h2⟩
   ·simp [h1, h2] at h
  ·simp [h1] at h
theorem more_dl (p : Pr) (h1 : p.types.length ≤ 63) (h2 : p.funcs.length ≤ 63) (hm : p.dl.may = true) : (more p).dl.may = true ∧ (more p).dl.nd = p.dl.nd + 1 ∧ (more p).dl.dp = max p.dl.dp 1 := by
 obtain ⟨u1, u2, u3⟩ := u32_dl
 obtain ⟨r1, r2, r3⟩ := ret_dl
 simp only [Pr.dl, Dl.app, Bool.and_eq_true] at hm
 simp only [more, Pr.dl, dTs_app, dFs_app, Dl.app, u1, u2, u3, r1, r2, r3, hm.1.2, hm.2.2, List.length_append, List.length_singleton]
 have e1 : (dCnt ((p.types.length + 1 : Nat) : Int)).may = true := (cnt_may _).trans (okB_small (by omega))
 have e2 : (dCnt ((p.funcs.length + 1 : Nat) : Int)).may = true := (cnt_may _).trans (okB_small (by omega))
 rw [e1, e2]
 simp only [dCnt]
 exact ⟨rfl, by omega, by omega⟩
theorem more_err (p : Pr) (h1 : p.types.length ≤ 63) (h2 : p.funcs.length ≤ 63) (h : p.err = 0) : (more p).err = 0 ∨ (more p).err = 82 := by
 obtain ⟨e1, e2, e3⟩ := err_0 h
 obtain ⟨m1, m2, m3⟩ := more_dl p h1 h2 e1
 have h8 : max p.dl.dp 1 ≤ 32 := by omega
 unfold Pr.err Ws.err Ws.on
 simp only [Bool.false_or, Nat.zero_add, Nat.zero_max, m1, m2, m3, Bool.not_true, Bool.false_eq_true, if_false, h8, if_true]
 by_cases h9 : p.dl.nd + 1 ≤ 2048
 ·rw [if_pos h9]; exact .inl rfl
 ·rw [if_neg h9]; exact .inr rfl
theorem tab_app (l m : List Tp) {i : Nat} (h : i < l.length) : tab (l ++ m) i = tab l i := by
 unfold tab
 rw [List.getD_eq_getElem?_getD, List.getD_eq_getElem?_getD, List.getElem?_append_left h]
theorem tab_last (l : List Tp) (x : Tp) : tab (l ++ [x]) l.length = x.v := by
 unfold tab
 rw [List.getD_eq_getElem?_getD, List.getElem?_append_right (Nat.le_refl _), Nat.sub_self]
 rfl
end Pg
theorem Ty.okB_more {x : Ty.TyV} {i n m : Nat} (h : Ty.okB x i n = true) (hm : n ≤ m) : Ty.okB x i m = true := by
 unfold Ty.okB at h ⊢
 by_cases h1 : x.kind = 11 ∨ x.kind = 14
 ·rw [if_pos h1] at h ⊢
  simp only [Bool.and_eq_true] at h ⊢
  have := Ty.nmB_iff.1 h.1.1
  exact ⟨⟨Ty.nmB_iff.2 ⟨by omega, by omega⟩, h.1.2⟩, h.2⟩
 ·rw [if_neg h1] at h ⊢
  exact h
theorem Ty.chk_more {l : List Pg.Tp} (h : Ty.chk (Pg.tab l) l.length = 0) (hl : l.length ≤ 63) : Ty.chk (Pg.tab (l ++ [Pg.u32])) (l ++ [Pg.u32]).length = 0 := by
 obtain ⟨h1, h2⟩ := Ty.chk_ok h
 have hlen : (l ++ [Pg.u32]).length = l.length + 1 := by simp
 have hok : Ty.okB (Pg.tab (l ++ [Pg.u32]) l.length) l.length (l.length + 1) = true := by rw [Pg.tab_last]; rfl
 rw [hlen]
 unfold Ty.chk
 rw [if_pos, if_pos]
 ·intro i hi
  by_cases e : i < l.length
  ·rw [Ty.lie_congr (U := Pg.tab l) fun j hj => Pg.tab_app l _ (by omega)]
   exact (h2 i e).2
  ·obtain rfl : i = l.length := by omega
   rw [Ty.lie_eq hok, Pg.tab_last]
   generalize Ty.lie (Pg.tab (l ++ [Pg.u32])) = L
   simp [Ty.lieOf, Pg.u32, Pg.Tp.v, Wd.by', Wd.wid]
 ·rw [Ty.tabB_iff]
  refine ⟨by omega, fun i hi => ?_⟩
  by_cases e : i < l.length
  ·rw [Pg.tab_app l _ e]
   exact Ty.okB_more (h2 i e).1 (by omega)
  ·obtain rfl : i = l.length := by omega
   exact hok
theorem Ck.take_more {p : Pg.Pr} (h : Ck.takeP p = .ok ()) (h1 : p.types.length < 64) (h2 : p.funcs.length < 32) : Ck.takeP (Pg.more p) = .ok () ∨ Ck.takeP (Pg.more p) = .error 82 := by
 obtain ⟨e1, e2, e3, e4, e5⟩ := Ck.take_inv h
 rcases Pg.more_err p (by omega) (by omega) e1 with q | q
 case inr => exact .inr (by rw [Ck.take_1 (by omega), q])
 refine .inl ?_
 have hne : p.funcs ≠ [] := by intro h9; rw [h9] at e3; simp at e3
 have h0 := Ck.heads_pos hne e4
 have hL : Ck.Le (Ck.of p) (Ck.of (Pg.more p)) := ⟨by simp [Ck.of, Pg.more], fun i hi => Pg.tab_app _ _ hi, rfl, [Pg.ret], rfl⟩
 have hw : ∀ f, f ∈ p.funcs → Ck.Wf { Ck.of p with f := f } := fun f hf => Ck.wf_of e2 (Ck.head_ok (Ck.heads_mem e4 f hf)).2.2.1
 rw [Ck.take_4 q (Ty.chk_more e2 (by omega)) (by simp [Pg.more]; omega)]
 have a1 : Ck.heads (Ck.of (Pg.more p)) true (Pg.more p).funcs = .ok () := by
  show Ck.heads _ true (p.funcs ++ [Pg.ret]) = _
  rw [Ck.heads_app, Ck.heads_le hL h0 e4]
  have e9 : p.funcs.isEmpty = false := by cases hp : p.funcs with | nil => exact absurd hp hne | cons a b => rfl
  rw [e9]
  rfl
 have a2 : Ck.bodies (Ck.of (Pg.more p)) (Pg.more p).funcs = .ok () := by
  show Ck.bodies _ (p.funcs ++ [Pg.ret]) = _
  rw [Ck.bodies_app, Ck.bodies_le hL h0 hw e5]
  simp only [bind, Except.bind, Ck.bodies]
  have e9 : Ck.sms { Ck.of (Pg.more p) with f := Pg.ret } 0 Pg.ret.body = .ok () := by
   simp only [Pg.ret, Ck.sms, Ck.sm, Ck.spre, Ck.srow, Ck.tms, Ck.sask, Ck.must, bind, Except.bind]
   rfl
  rw [e9]
  simp [Pg.ret, Ck.ens, Ck.en, Ck.must]
 rw [a1]
 exact a2
end Go.Proofs.YtcfpnojbhojagaaGreat
namespace Go.Proofs.YtcfpnojbhojagaaGreat
open Go.RowKit
set_option linter.unusedVariables false
namespace Ck
def Nz {α : Type} (r : Except Int α) : Prop := ∀ e, r = .error e → e ≠ 0
theorem Nz.ok {α : Type} (a : α) : Nz (.ok a : Except Int α) := fun e h => by cases h
theorem Nz.err {α : Type} {x : Int} (hx : x ≠ 0) : Nz (.error x : Except Int α) := fun e h => by cases h; exact hx
theorem Nz.must {b : Bool} {x : Int} (hx : x ≠ 0) : Nz (Ck.must b x) := by cases b; exact Nz.err hx; exact Nz.ok _
theorem Nz.bind {α β : Type} {a : Except Int α} {f : α → Except Int β} (h1 : Nz a) (h2 : ∀ x, Nz (f x)) : Nz (a >>= f) := by
 cases a with
 | error e => exact fun x h => by cases h; exact h1 e rfl
 | ok x => exact h2 x
theorem Nz.ite {α : Type} {P : Prop} [Decidable P] {a b : Except Int α} (h1 : Nz a) (h2 : Nz b) : Nz (if P then a else b) := by split <;> assumption
theorem nz_fld (c : En) (i n : Int) : Nz (fld c i n) := Nz.bind (Nz.must (by decide)) fun _ => Nz.bind (Nz.must (by decide)) fun _ => Nz.ok _
theorem nz_pre (c : En) (op t n : Int) (sz k : Nat) : Nz (pre c op t n sz k) := by
 unfold pre
 split
 ·exact Nz.err (by decide)
 ·exact Nz.bind (Nz.must (by decide)) fun _ => Nz.bind (Nz.must (by decide)) fun _ => Nz.must (by decide)
theorem nz_ask (c : En) (op t n : Int) (l : List Int) : Nz (ask c op t n l) := by
 unfold ask
 simp only []
 repeat' (first | exact Nz.ok _ | exact Nz.must (by decide) | exact nz_fld _ _ _ | (refine Nz.ite ?_ ?_) | (refine Nz.bind ?_ fun _ => ?_))
theorem nz_tms (c : En) : ∀ l : List Pg.Ex, (∀ y, y ∈ l → Nz (tm c y)) → Nz (tms c l)
 | [], _ => Nz.ok _
 | x :: l, h => by rw [tms]; exact Nz.bind (h x (by simp)) fun _ => Nz.bind (nz_tms c l fun y hy => h y (by simp [hy])) fun _ => Nz.ok _
theorem nz_tm (c : En) : ∀ x : Pg.Ex, Nz (tm c x) := Pg.Ex.ind (fun op t n s args ih => by rw [tm]; exact Nz.bind (nz_pre _ _ _ _ _ _) fun _ => Nz.bind (nz_tms c args ih) fun _ => nz_ask _ _ _ _ _)
theorem nz_spre (op n : Int) (k d a b : Nat) : Nz (spre op n k d a b) := by
 unfold spre
 split
 ·exact Nz.err (by decide)
 ·exact Nz.bind (Nz.must (by decide)) fun _ => Nz.must (by decide)
theorem nz_cal (c : En) (n : Int) (dst l : List Int) : Nz (cal c n dst l) := Nz.bind (Nz.must (by decide)) fun _ => Nz.bind (Nz.must (by decide)) fun _ => Nz.bind (Nz.must (by decide)) fun _ => Nz.bind (Nz.must (by decide)) fun _ => Nz.must (by decide)
theorem nz_sask (c : En) (lp : Nat) (op n : Int) (dst l : List Int) : Nz (sask c lp op n dst l) := by
 unfold sask
 simp only []
 repeat' (first | exact Nz.ok _ | exact Nz.must (by decide) | exact nz_cal _ _ _ _ | (refine Nz.ite ?_ ?_) | (refine Nz.bind ?_ fun _ => ?_))
theorem nz_sms (c : En) : ∀ (l : List Pg.St) (lp : Nat), (∀ y, y ∈ l → ∀ lp, Nz (sm c lp y)) → Nz (sms c lp l)
 | [], _, _ => Nz.ok _
 | x :: l, lp, h => by rw [sms]; exact Nz.bind (h x (by simp) lp) fun _ => nz_sms c l lp fun y hy => h y (by simp [hy])
theorem nz_sm (c : En) : ∀ x : Pg.St, ∀ lp, Nz (sm c lp x) := Pg.St.ind (fun op n args dst a b iha ihb lp => by rw [sm]; exact Nz.bind (nz_spre _ _ _ _ _ _) fun _ => Nz.bind (nz_tms c args fun y _ => nz_tm c y) fun _ => Nz.bind (nz_sask _ _ _ _ _ _) fun _ => Nz.bind (nz_sms c a _ iha) fun _ => nz_sms c b _ ihb)
theorem nz_head (c : En) (f : Pg.Fn) : Nz (head c f) := Nz.bind (Nz.must (by decide)) fun _ => Nz.bind (Nz.must (by decide)) fun _ => Nz.bind (Nz.must (by decide)) fun _ => Nz.bind (Nz.must (by decide)) fun _ => Nz.bind (Nz.must (by decide)) fun _ => Nz.must (by decide)
theorem nz_first (c : En) (f : Pg.Fn) : Nz (first c f) := Nz.bind (Nz.must (by decide)) fun _ => Nz.must (by decide)
theorem nz_heads (c : En) : ∀ (l : List Pg.Fn) (z : Bool), Nz (heads c z l)
 | [], _ => Nz.ok _
 | f :: l, z => by
  rw [heads]
  refine Nz.bind (nz_head c f) fun _ => ?_
  cases z with
  | false => exact nz_heads c l false
  | true => exact Nz.bind (nz_first c f) fun _ => nz_heads c l false
theorem nz_bodies (c : En) : ∀ (l : List Pg.Fn), Nz (bodies c l)
 | [] => Nz.ok _
 | f :: l => by rw [bodies]; exact Nz.bind (nz_sms _ _ _ fun y _ => nz_sm _ y) fun _ => Nz.bind (Nz.must (by decide)) fun _ => nz_bodies c l
theorem take_nz (p : Pg.Pr) : Nz (takeP p) := by
 by_cases h1 : p.err = 0
 case neg => rw [take_1 h1]; exact Nz.err h1
 by_cases h2 : Ty.chk (Pg.tab p.types) p.types.length = 0
 case neg => rw [take_2 h1 h2]; exact Nz.err (by decide)
 by_cases h3 : 0 < p.funcs.length ∧ p.funcs.length ≤ 32
 case neg => rw [take_3 h1 h2 h3]; exact Nz.err (by decide)
 rw [take_4 h1 h2 h3]
 exact Nz.bind (nz_heads _ _ _) fun _ => nz_bodies _ _
end Ck
def Ck.numE : Except Int Unit → Int
 | .ok _ => 0
 | .error e => e
theorem Ck.ok_of {p : Pg.Pr} (h : Ck.numE (Ck.takeP p) = 0) : Ck.takeP p = .ok () := by
 cases hx : Ck.takeP p with
 | ok u => rfl
 | error e => rw [hx] at h; exact absurd h (Ck.take_nz p e hx)
namespace Ck
mutual
def tx : Pg.Ex → List Int
 | .mk op t n s args => Pg.txt s ++ txs args
def txs : List Pg.Ex → List Int
 | [] => []
 | x :: l => tx x ++ txs l
end
mutual
def sx : Pg.St → List Int
 | .mk op n args dst a b => txs args ++ (sxs a ++ sxs b)
def sxs : List Pg.St → List Int
 | [] => []
 | x :: l => sx x ++ sxs l
end
def fxs : List Pg.Fn → List Int
 | [] => []
 | f :: l => sxs f.body ++ fxs l
theorem tx_eq (x : Pg.Ex) : tx x = Pg.txt x.s ++ txs x.args := by obtain ⟨_, _, _, _, _⟩ := x; rw [tx]; rfl
theorem sx_eq (x : Pg.St) : sx x = txs x.args ++ (sxs x.a ++ sxs x.b) := by obtain ⟨_, _, _, _, _, _⟩ := x; rw [sx]; rfl
theorem txs_app : ∀ a b : List Pg.Ex, txs (a ++ b) = txs a ++ txs b
 | [], b => rfl
 | x :: a, b => by rw [List.cons_append, txs, txs, txs_app a b, List.append_assoc]
theorem sxs_app : ∀ a b : List Pg.St, sxs (a ++ b) = sxs a ++ sxs b
 | [], b => rfl
 | x :: a, b => by rw [List.cons_append, sxs, sxs, sxs_app a b, List.append_assoc]
theorem fxs_app : ∀ a b : List Pg.Fn, fxs (a ++ b) = fxs a ++ fxs b
 | [], b => rfl
 | x :: a, b => by rw [List.cons_append, fxs, fxs, fxs_app a b, List.append_assoc]
theorem txs_succ {l : List Pg.Ex} {k : Nat} (h : k < l.length) : txs (l.take (k + 1)) = txs (l.take k) ++ tx l[k] := by
 rw [List.take_succ_eq_append_getElem h, txs_app, txs, txs, List.append_nil]
theorem sxs_succ {l : List Pg.St} {k : Nat} (h : k < l.length) : sxs (l.take (k + 1)) = sxs (l.take k) ++ sx l[k] := by
 rw [List.take_succ_eq_append_getElem h, sxs_app, sxs, sxs, List.append_nil]
theorem fxs_succ {l : List Pg.Fn} {k : Nat} (h : k < l.length) : fxs (l.take (k + 1)) = fxs (l.take k) ++ sxs l[k].body := by
 rw [List.take_succ_eq_append_getElem h, fxs_app, fxs, fxs, List.append_nil]
theorem txs_le (l : List Pg.Ex) (k : Nat) : (txs (l.take k)).length ≤ (txs l).length := by
 have h := congrArg List.length (txs_app (l.take k) (l.drop k))
 rw [List.take_append_drop, List.length_append] at h
 omega
theorem sxs_le (l : List Pg.St) (k : Nat) : (sxs (l.take k)).length ≤ (sxs l).length := by
 have h := congrArg List.length (sxs_app (l.take k) (l.drop k))
 rw [List.take_append_drop, List.length_append] at h
 omega
theorem fxs_le (l : List Pg.Fn) (k : Nat) : (fxs (l.take k)).length ≤ (fxs l).length := by
 have h := congrArg List.length (fxs_app (l.take k) (l.drop k))
 rw [List.take_append_drop, List.length_append] at h
 omega
theorem txs_en : ∀ (l : List Pg.Ex), (∀ y, y ∈ l → y.dl.may = true → (tx y).length ≤ y.dl.en.length) → (Pg.dCat Pg.Ex.dl l).may = true → (txs l).length ≤ (Pg.dCat Pg.Ex.dl l).en.length
 | [], _, _ => Nat.zero_le _
 | x :: l, h, hm => by
  simp only [Pg.dCat, Pg.Dl.app, Bool.and_eq_true, List.length_append] at hm ⊢
  have h1 := h x (by simp) hm.1
  have h2 := txs_en l (fun y hy => h y (by simp [hy])) hm.2
  rw [txs, List.length_append]
  omega
theorem tx_en (x : Pg.Ex) : x.dl.may = true → (tx x).length ≤ x.dl.en.length := by
 refine Pg.Ex.ind (P := fun x => x.dl.may = true → (tx x).length ≤ x.dl.en.length) ?_ x
 intro op t n s args ih hm
 rw [Pg.Ex.dl_eq] at hm ⊢
 simp only [Pg.Dl.node, Pg.Dl.app, Bool.and_eq_true, Pg.dExL, Pg.dEs_cat, Pg.Ex.s, Pg.Ex.args, List.length_append] at hm ⊢
 have h1 := txs_en args ih hm.2.2.2.2.2
 have h2 : (Pg.txt s).length ≤ (Pg.dTxt s).en.length := by
  have := hm.2.2.2.1
  unfold Pg.dTxt at this ⊢
  by_cases hs : s.size ≤ 256
  ·rw [if_pos hs, List.length_append]; omega
  ·rw [if_neg hs] at this; cases this
 rw [tx, List.length_append]
 omega
theorem sxs_en : ∀ (l : List Pg.St), (∀ y, y ∈ l → y.dl.may = true → (sx y).length ≤ y.dl.en.length) → (Pg.dCat Pg.St.dl l).may = true → (sxs l).length ≤ (Pg.dCat Pg.St.dl l).en.length
 | [], _, _ => Nat.zero_le _
 | x :: l, h, hm => by
  simp only [Pg.dCat, Pg.Dl.app, Bool.and_eq_true, List.length_append] at hm ⊢
  have h1 := h x (by simp) hm.1
  have h2 := sxs_en l (fun y hy => h y (by simp [hy])) hm.2
  rw [sxs, List.length_append]
  omega
theorem sx_en (x : Pg.St) : x.dl.may = true → (sx x).length ≤ x.dl.en.length := by
 refine Pg.St.ind (P := fun x => x.dl.may = true → (sx x).length ≤ x.dl.en.length) ?_ x
 intro op n args dst a b iha ihb hm
 rw [Pg.St.dl_eq] at hm ⊢
 simp only [Pg.Dl.node, Pg.Dl.app, Bool.and_eq_true, Pg.dExL, Pg.dStL, Pg.dEs_cat, Pg.dSs_cat, Pg.St.args, Pg.St.a, Pg.St.b, List.length_append] at hm ⊢
 have h1 := txs_en args (fun y _ => tx_en y) hm.2.2.1.2
 have h2 := sxs_en a iha hm.2.2.2.2.1.2
 have h3 := sxs_en b ihb hm.2.2.2.2.2.2
 rw [sx, List.length_append, List.length_append]
 omega
theorem fxs_en : ∀ (l : List Pg.Fn), (Pg.dFs l).may = true → (fxs l).length ≤ (Pg.dFs l).en.length
 | [], _ => Nat.zero_le _
 | f :: l, hm => by
  simp only [Pg.dFs, Pg.Fn.dl, Pg.Dl.app, Bool.and_eq_true, Pg.dStL, Pg.dSs_cat, List.length_append] at hm ⊢
  have h1 := sxs_en f.body (fun y _ => sx_en y) hm.1.2.2.2.2
  have h2 := fxs_en l hm.2
  rw [fxs, List.length_append]
  omega
theorem px_en {p : Pg.Pr} (hm : p.dl.may = true) : (fxs p.funcs).length ≤ p.dl.en.length := by
 simp only [Pg.Pr.dl, Pg.Dl.app, Bool.and_eq_true, List.length_append] at hm ⊢
 have := fxs_en p.funcs hm.2.2
 omega
end Ck
def Kb : Obj → Prop
 | .cells _ t _ => t ≠ 5
 | _ => True
structure Rb (base : Nat) (T : List Int) (w w' : World) : Prop where
 os : w'.os = w.os
 tape : w'.tape = w.tape
 output : w'.output = w.output
 size : w.heap.size ≤ w'.heap.size
 block : ∀ k o, w.heap[k]? = some o → (k < base ∨ Kb o) → w'.heap[k]? = some o
 own : ∀ v l, l <+: T → OwnL w base v l → OwnL w' base v l
theorem Rb.refl (base : Nat) (T : List Int) (w : World) : Rb base T w w := ⟨rfl, rfl, rfl, Nat.le_refl _, fun _ _ h _ => h, fun _ _ _ h => h⟩
theorem Rb.trans {base : Nat} {T : List Int} {w w1 w2 : World} (h1 : Rb base T w w1) (h2 : Rb base T w1 w2) : Rb base T w w2 :=
 ⟨h2.os.trans h1.os, h2.tape.trans h1.tape, h2.output.trans h1.output, Nat.le_trans h1.size h2.size, fun k o h hk => h2.block k o (h1.block k o h hk) hk, fun v l hl h => h2.own v l hl (h1.own v l hl h)⟩
theorem Rb.of {base : Nat} {T : List Int} {w w' : World} (g : w.grownBy w' none) : Rb base T w w' := ⟨g.os, g.tape, g.output, g.size, fun k o h _ => by
 have hk : k < w.heap.size := (Array.getElem?_eq_some_iff.1 h).1
 rw [g.block k hk (by simp)]
 exact h, fun v l _ h => h.kept g (Classical.em _)⟩
theorem Rb.ch {base : Nat} {T : List Int} {w w' : World} (h : Rb base T w w') : Ch w w' (List.range' base (w.heap.size - base)) :=
 ⟨h.os, h.tape, h.output, h.size, fun k hk hn => by
  have hb : k < base := by
   rw [List.mem_range'_1] at hn
   omega
  obtain ⟨o, ho⟩ : ∃ o, w.heap[k]? = some o := ⟨_, Array.getElem?_eq_getElem hk⟩
  rw [ho]
  exact h.block k o ho (.inl hb)⟩
theorem not_rangeB {base n k : Nat} (h : k < base) : k ∉ List.range' base n := by
 rw [List.mem_range'_1]
 omega
theorem Rb.below {base : Nat} {T : List Int} {w w' : World} (h : Rb base T w w') (hb : base = w.heap.size) : w.grownBy w' none :=
 ⟨h.os, h.tape, h.output, h.size, fun k hk _ => by
  obtain ⟨o, ho⟩ : ∃ o, w.heap[k]? = some o := ⟨_, Array.getElem?_eq_getElem hk⟩
  rw [ho]
  exact h.block k o ho (.inl (by omega))⟩
theorem cell_heapB {w : World} {B : Nat} {c : Array Value} {t : TypeId} {fr : Nat × Nat} (h : w.heap[B]? = some (.cells c t fr)) (i : Nat) : w.cell? ⟨B, i, none⟩ = c[i]? := by simp [World.cell?, h]
theorem Rb.cell {base : Nat} {T : List Int} {w w' : World} (hk : Rb base T w w') {B : Nat} {c : Array Value} {t : TypeId} {fr : Nat × Nat} (h : w.heap[B]? = some (.cells c t fr)) (ht : Kb (.cells c t fr)) (i : Nat) : w'.cell? ⟨B, i, none⟩ = c[i]? := cell_heapB (hk.block B _ h (.inr ht)) i
theorem Rb.low {base : Nat} {T : List Int} {w w' : World} (hk : Rb base T w w') {b o : Nat} {v : Value} (h : w.cell? ⟨b, o, none⟩ = some v) (hb : b < base) : w'.cell? ⟨b, o, none⟩ = some v := hk.ch.cell h (not_rangeB hb)
def AppOut (w : World) (v : Value) (l m : List Int) (v' : Value) (w' : World) : Prop :=
 (v = .slice none 0 0 ∧ m = [] ∧ v' = v ∧ w' = w) ∨
 (∃ (cap : Nat) (Z : Array Value), l.length + m.length ≤ cap ∧ cap ≤ maxLen ∧ l.length + m.length + Z.size = cap ∧ v' = .slice (some ⟨w.heap.size, 0, none⟩) (l.length + m.length) cap ∧ w' = w.drew.alloc (.cells ((l.map (Value.int .u8)).toArray ++ (m.map (Value.int .u8)).toArray ++ Z) 5)) ∨
 (∃ (g cap : Nat) (cur : Array Value), v = .slice (some ⟨g, 0, none⟩) l.length cap ∧ w.heap[g]? = some (.cells cur 5 (0, 0)) ∧ cap ≤ maxLen ∧ cur.size = cap ∧ cur.toList.take l.length = l.map (Value.int .u8) ∧ l.length + m.length ≤ cap ∧ v' = .slice (some ⟨g, 0, none⟩) (l.length + m.length) cap ∧ w' = w.setRow g (cur.toList.take l.length ++ m.map (Value.int .u8) ++ cur.toList.drop (l.length + m.length)).toArray)
theorem take_of_prefix {A B T : List Int} (h1 : A <+: T) (h2 : B <+: T) (h : A.length ≤ B.length) : A = B.take A.length := by
 obtain ⟨a, rfl⟩ := h1
 obtain ⟨b, hb⟩ := h2
 have : (B ++ b).take A.length = (A ++ a).take A.length := by rw [hb]
 rw [List.take_append_of_le_length h, List.take_append_of_le_length (Nat.le_refl _), List.take_length] at this
 exact this.symm
theorem AppOut.own {base : Nat} {w w' : World} {v v' : Value} {l m : List Int} (h : AppOut w v l m v' w') (hown : OwnL w base v l) (hb : base ≤ w.heap.size) : OwnL w' base v' (l ++ m) ∧ ∀ T, l ++ m <+: T → Rb base T w w' := by
 rcases h with ⟨rfl, rfl, rfl, rfl⟩ | ⟨cap, Z, h1, h2, h3, rfl, rfl⟩ | ⟨g, cap, cur, rfl, hg, hcm, hcs, ht, hroom, rfl, rfl⟩
 ·exact ⟨by rw [List.append_nil]; exact hown, fun T _ => Rb.refl _ _ _⟩
 ·have hgr : w.grownBy (w.drew.alloc (.cells ((l.map (Value.int .u8)).toArray ++ (m.map (Value.int .u8)).toArray ++ Z) 5)) none := grown_trans (grown_drew (World.grownBy.refl _ none)) (World.grownBy_alloc _ _ _)
  refine ⟨?_, fun T _ => Rb.of hgr⟩
  refine ⟨by simp, .inr ⟨w.heap.size, cap, _, by rw [List.length_append], hb, heap_alloc_new w.drew _, by rw [List.length_append]; exact h1, h2, ?_, ?_⟩⟩
  ·simp only [Array.size_append, List.size_toArray, List.length_map]; omega
  ·simp only [Array.toList_append, Nat.mul_one, List.map_append]
   rw [show (l ++ m).length = (l.map (Value.int .u8) ++ m.map (Value.int .u8)).length from by simp]
   exact List.take_left
 ·have hlen : l.length ≤ cur.toList.length := by
   have : (cur.toList.take l.length).length = l.length := by rw [ht]; simp
   rw [List.length_take] at this
   omega
  have hbg : base ≤ g := by
   have := (World.ownsRow.lt hown g rfl).1
   exact this
  have hcl : cur.toList.length = cap := by simpa using hcs
  refine ⟨⟨by simp, .inr ⟨g, cap, _, by rw [List.length_append], hbg, setRow_heap w g cur _ _ _ hg, by rw [List.length_append]; exact hroom, hcm, ?_, ?_⟩⟩, fun T hT => ⟨rfl, rfl, rfl, by simp, fun k o hk hko => ?_, fun v2 l2 h2 ho2 => ?_⟩⟩
  ·simp only [List.size_toArray, List.length_append, List.length_take, List.length_drop, List.length_map]
   omega
  ·rw [ht, List.map_append, Nat.mul_one]
   rw [show (l ++ m).length = (l.map (Value.int .u8) ++ m.map (Value.int .u8)).length from by simp]
   exact List.take_left
  ·by_cases e : k = g
   ·subst e
    rw [hg] at hk
    injection hk with hk
    subst hk
    rcases hko with h | h
    ·omega
    ·exact absurd rfl h
   ·rw [setRow_other w g k _ e]
    exact hk
  ·rcases ho2.2 with ⟨rfl, h0⟩ | ⟨g2, cap2, cur2, rfl, hb2, hg2, hn2, hc2, hs2, ht2⟩
   ·exact ⟨ho2.1, .inl ⟨rfl, h0⟩⟩
   ·by_cases e : g2 = g
    ·subst e
     rw [hg] at hg2
     injection hg2 with hg2
     injection hg2 with hg2
     subst hg2
     refine ⟨ho2.1, .inr ⟨g2, cap2, _, rfl, hb2, setRow_heap w g2 cur _ _ _ hg, hn2, hc2, ?_, ?_⟩⟩
     ·simp only [List.size_toArray, List.length_append, List.length_take, List.length_drop, List.length_map]
      omega
     ·rw [Nat.mul_one] at ht2 ⊢
      rw [ht]
      by_cases hle : l2.length ≤ l.length + m.length
      ·have e2 : l2 = (l ++ m).take l2.length := take_of_prefix h2 hT (by rw [List.length_append]; exact hle)
       rw [List.take_append_of_le_length (by simp; omega), ← List.map_append, ← List.map_take, ← e2]
      ·have e2 : l ++ m = l2.take (l ++ m).length := take_of_prefix hT h2 (by rw [List.length_append]; omega)
       have e3 : (l.map (Value.int .u8) ++ m.map (Value.int .u8)) = cur.toList.take (l.length + m.length) := by
        rw [← List.map_append, e2, List.map_take, ← ht2, List.take_take, List.length_append, Nat.min_eq_left (by omega)]
       rw [e3, List.take_append_drop]
       exact ht2
    ·exact ⟨ho2.1, .inr ⟨g2, cap2, cur2, rfl, hb2, by rw [setRow_other w g g2 _ e]; exact hg2, hn2, hc2, hs2, ht2⟩⟩
theorem map_u8 (m : List Int) : ∀ u ∈ m.map (Value.int .u8), u.oneCell' = true := by intro u hu; obtain ⟨z, _, rfl⟩ := List.mem_map.mp hu; rfl
theorem run_app_str {w : World} {base : Nat} {v : Value} {l : List Int} (hown : OwnL w base v l) {s : ByteArray} (hl : l.length + s.size ≤ 1000000000) (ty : TypeId) :
  ∃ v' w', (Builtin.append_ #[36, 9] ty #[v, .string s]).run Tryz.prog w = .ok v' w' ∧ AppOut w v l (Pg.txt s) v' w' := by
 obtain ⟨i, hi, hz0, hz1, hz2⟩ := info_parts info_u8
 have hu : Tryz.prog.underlying 9 = some .string := by kernel_rfl
 have hZ : ∀ (n : Nat), (Builtin.zeroCells (Value.int .u8 0).cells n).size = n := fun n => by rw [size_zeroCells]; simp [Value.cells]
 have hx : (s.extract 0 s.size).data.map (fun b : UInt8 => Value.int IntKind.u8 (b.toNat : Int)) = ((Pg.txt s).map (Value.int .u8)).toArray := by
  have : s.extract 0 s.size = s := by simp
  rw [this]
  apply Array.ext'
  simp [Pg.txt]
 have hxl : (Pg.txt s).length = s.size := Pg.txt_len s
 have hf : ∀ W : World, (Builtin.firstCells 1 s.size (.string s)).run Tryz.prog W = .ok ((Pg.txt s).map (Value.int .u8)).toArray W := fun W => by simp only [Builtin.firstCells, Sem.run_pure, hx]
 rcases hown.2 with ⟨rfl, h0⟩ | ⟨q, cap, cur, rfl, hbq, hq, hnc, hcm, hcs, ht⟩
 ·have hl0 : l = [] := List.length_eq_zero_iff.1 h0
  subst hl0
  by_cases hs0 : s.size = 0
  ·refine ⟨.slice none 0 0, w, ?_, .inl ⟨rfl, List.length_eq_zero_iff.1 (by omega), rfl, rfl⟩⟩
   simp [Builtin.append_, run_underlying (P := Tryz.prog) Tryz.underlying36, run_underlying hu, sizeOf, typeInfo, hi, Builtin.lenOf, hs0, Builtin.firstCells]
  ·have hr := run_append_nil_string (P := Tryz.prog) w 36 9 ty 5 i (.int .u8 0) Tryz.underlying36 hu hi hz0 s (by omega) (by omega) (by rw [hz2]; simp at hl; omega)
   refine ⟨_, _, hr, .inr (.inl ⟨grownCap w s.size 0 5, Builtin.zeroCells (Value.int .u8 0).cells (grownCap w s.size 0 5 - s.size), ?_, grownCap_le_maxLen w _ _ _ (by unfold maxLen; simp at hl; omega), ?_, ?_, ?_⟩)⟩
   ·have := grownCap_ge w s.size 0 5; simp [hxl]; exact this
   ·rw [hZ]; have := grownCap_ge w s.size 0 5; simp [hxl]; omega
   ·simp [hxl]
   ·refine congrArg (fun c => w.drew.alloc (.cells c 5)) ?_
    apply Array.ext'
    simp [Pg.txt]
 ·rw [Nat.mul_one] at ht
  by_cases hroom : l.length + s.size ≤ cap
  ·have hst := run_storeCells_at Tryz.prog q l.length 5 ((Pg.txt s).map (Value.int .u8)) 0 cur w hq (by simp [hxl]; omega) (map_u8 _)
   simp only [Nat.add_zero] at hst
   refine ⟨.slice (some ⟨q, 0, none⟩) (l.length + s.size) cap, w.setRow q (cur.toList.take l.length ++ (Pg.txt s).map (Value.int .u8) ++ cur.toList.drop (l.length + s.size)).toArray, ?_, .inr (.inr ⟨q, cap, cur, rfl, hq, hcm, by omega, ht, by rw [hxl]; exact hroom, by rw [hxl], by rw [hxl]⟩)⟩
   have hst2 := hst
   simp only [List.length_map, hxl] at hst2
   simp [Builtin.append_, run_underlying (P := Tryz.prog) Tryz.underlying36, run_underlying hu, sizeOf, typeInfo, hi, hz1, Builtin.lenOf, hroom, hf, Addr.add_lit, hst2]
  ·have hne : ¬ (l.length + s.size ≤ cap) := hroom
   have h63' : ¬ (9223372036854775807 < ((l.length : Int) + (s.size : Int))) := by omega
   have h48' : ¬ (281474976710656 < Builtin.nextslicecap (l.length + s.size) cap * i.bytes) := by
    have := growslice_fits (need := l.length + s.size) (old := cap) (bytes := i.bytes) (by omega) (by rw [hz2]; omega)
    omega
   have hfo := run_firstCells_some (P := Tryz.prog) w.drew i.size l.length ⟨q, 0, none⟩ l.length cap (l.map (Value.int .u8)) (by rw [hz1]; simp) (by simpa using World.ownsRow.cells hown (g := q) rfl)
   refine ⟨.slice (some ⟨w.heap.size, 0, none⟩) (l.length + s.size) (grownCap w (l.length + s.size) cap 5), w.drew.alloc (.cells ((l.map (Value.int .u8)).toArray ++ ((Pg.txt s).map (Value.int .u8)).toArray ++ Builtin.zeroCells (Value.int .u8 0).cells (grownCap w (l.length + s.size) cap 5 - (l.length + s.size))) 5), ?_, .inr (.inl ⟨grownCap w (l.length + s.size) cap 5, Builtin.zeroCells (Value.int .u8 0).cells (grownCap w (l.length + s.size) cap 5 - (l.length + s.size)), by rw [hxl]; exact grownCap_ge _ _ _ _, grownCap_le_maxLen w _ _ _ (by unfold maxLen; omega), ?_, by rw [hxl], rfl⟩)⟩
   ·rw [hz1] at hfo
    simp [Builtin.append_, run_underlying (P := Tryz.prog) Tryz.underlying36, run_underlying hu, sizeOf, typeInfo, zeroValue, hi, hz0, hz1, Builtin.lenOf, hne, h63', h48', Question.forced, hf, hfo, newRow, grownCap]
    refine congrArg (fun c => w.drew.alloc (.cells c 5)) ?_
    apply Array.ext'
    simp [List.append_assoc]
   ·rw [hZ, hxl]
    have := grownCap_ge w (l.length + s.size) cap 5
    omega
end Go.Proofs.YtcfpnojbhojagaaGreat
namespace Go.Proofs.YtcfpnojbhojagaaGreat
set_option maxRecDepth 100000
set_option maxHeartbeats 32000000
open Go.RowKit
set_option linter.unusedVariables false
def BtP (base : Nat) (w : World) (l en : List Int) (e : Ending) (w' : World) : Prop := ∃ v, e = .returned v ∧ OwnL w' base v (l ++ en) ∧ ∀ T, l ++ en <+: T → Rb base T w w'
end Go.Proofs.YtcfpnojbhojagaaGreat
namespace Go.Proofs.YtcfpnojbhojagaaGreat
open Go.RowKit
set_option linter.unusedVariables false
def Ra (base : Nat) (L : List Int) (w w' : World) : Prop := ∀ T, L <+: T → Rb base T w w'
theorem Ra.refl (base : Nat) (L : List Int) (w : World) : Ra base L w w := fun _ _ => Rb.refl _ _ _
theorem Ra.trans {base : Nat} {L : List Int} {w w1 w2 : World} (h1 : Ra base L w w1) (h2 : Ra base L w1 w2) : Ra base L w w2 := fun T hT => (h1 T hT).trans (h2 T hT)
theorem Ra.mono {base : Nat} {L L' : List Int} {w w' : World} (h : Ra base L w w') (hl : L <+: L') : Ra base L' w w' := fun T hT => h T (hl.trans hT)
theorem Ra.rb {base : Nat} {L : List Int} {w w' : World} (h : Ra base L w w') : Rb base L w w' := h L (List.prefix_refl _)
theorem Ra.of {base : Nat} {L : List Int} {w w' : World} (g : w.grownBy w' none) : Ra base L w w' := fun _ _ => Rb.of g
def BtQ (base : Nat) (w : World) (L : List Int) (e : Ending) (w' : World) : Prop := ∃ v, e = .returned v ∧ OwnL w' base v L ∧ Ra base L w w'
theorem BtP.q {base : Nat} {w : World} {l en : List Int} {f : Nat} {args : Array Value} (h : Calls Tryz.prog f args w (BtP base w l en)) {L : List Int} (e : L = l ++ en) : Calls Tryz.prog f args w (BtQ base w L) := by rw [e]; exact h
theorem Kb.of {c : Array Value} {t : TypeId} {fr : Nat × Nat} (h : t ≠ 5) : Kb (.cells c t fr) := h
theorem wp_rbStr {ops : Array Oper} {rest : List Oper} {o : Oper} {a : Act} {Q : Exit → Act → World → Prop} {W : World} (hgd : o.guard = none) (s x : Operand)
  (ho : o.op = .call { callee := .builtin .append, args := #[s, x], argTypes := #[36, 9] }) (base : Nat) (v : Value) (l : List Int) (hs : a.eval s = v) (hown : OwnL W base v l)
  (y : ByteArray) (hx : a.eval x = .string y) (hl : l.length + y.size ≤ 1000000000) (hb : base ≤ W.heap.size)
  (h : ∀ v' w', OwnL w' base v' (l ++ Pg.txt y) → Ra base (l ++ Pg.txt y) W w' → wpList Tryz.prog ops Q rest (a.put o.dst v') w') : wpList Tryz.prog ops Q (o :: rest) a W := by
 obtain ⟨v', w', hr, ho'⟩ := run_app_str hown hl o.type
 obtain ⟨h1, h2⟩ := ho'.own hown hb
 refine wpList_plain hgd fun K hK => ?_
 unfold Oper.wp execOp
 simp only [ho, resolve, invoke, builtin, Sem.run_bind, Sem.run_pure, Result.andThen_ok, List.map_toArray, List.map_cons, List.map_nil, hs, hx, hr]
 exact hK _ _ (h v' w' h1 h2)
end Go.Proofs.YtcfpnojbhojagaaGreat
