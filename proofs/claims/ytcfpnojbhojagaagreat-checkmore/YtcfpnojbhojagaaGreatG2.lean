/- Contracts and plain facts that the walks share. -/
import Derived.Test.YtcfpnojbhojagaaGreatG1
import Derived.Deep.Slices
import Derived.OpenShut
import Derived.SizedLaws
namespace Go.Proofs.YtcfpnojbhojagaaGreat
open Go.RowKit
set_option linter.unusedVariables false
namespace Pg
inductive Ex where
 | mk (op t n : Int) (s : ByteArray) (args : List Ex)
inductive St where
 | mk (op n : Int) (args : List Ex) (dst : List Int) (a b : List St)
def Ex.op : Ex → Int
 | .mk op _ _ _ _ => op
def Ex.t : Ex → Int
 | .mk _ t _ _ _ => t
def Ex.n : Ex → Int
 | .mk _ _ n _ _ => n
def Ex.s : Ex → ByteArray
 | .mk _ _ _ s _ => s
def Ex.args : Ex → List Ex
 | .mk _ _ _ _ l => l
def St.op : St → Int
 | .mk op _ _ _ _ _ => op
def St.n : St → Int
 | .mk _ n _ _ _ _ => n
def St.args : St → List Ex
 | .mk _ _ l _ _ _ => l
def St.dst : St → List Int
 | .mk _ _ _ d _ _ => d
def St.a : St → List St
 | .mk _ _ _ _ a _ => a
def St.b : St → List St
 | .mk _ _ _ _ _ b => b
theorem Ex.ind {P : Ex → Prop} (h : ∀ op t n s args, (∀ x, x ∈ args → P x) → P (.mk op t n s args)) : ∀ x, P x
 | .mk op t n s args => h op t n s args fun x hx => Ex.ind h x
theorem St.ind {P : St → Prop} (h : ∀ op n args dst a b, (∀ x, x ∈ a → P x) → (∀ x, x ∈ b → P x) → P (.mk op n args dst a b)) : ∀ x, P x
 | .mk op n args dst a b => h op n args dst a b (fun x hx => St.ind h x) (fun x hx => St.ind h x)
structure Tp where
 kind : Int
 elem : Int
 n : Int
 fields : List Int
structure Fn where
 params : Int
 locals : List Int
 results : List Int
 body : List St
structure Pr where
 types : List Tp
 funcs : List Fn
end Pg
structure RowL {α : Type} (c by' : Nat) (B : Nat → Prop) (Q : Nat → Nat → α → Prop) (a : Option Addr) (cap : Nat) (l : List α) : Prop where
 nil : a = none → l = [] ∧ cap = 0
 le : l.length ≤ cap
 max : cap ≤ maxLen
 fits : l.length * by' ≤ reachBytes
 lie : l = [] ∨ ∃ b o, a = some ⟨b, o, none⟩ ∧ B b ∧ ∀ i x, l[i]? = some x → Q b (o + i * c) x
theorem RowL.mono {α : Type} {c by' : Nat} {B B' : Nat → Prop} {Q Q' : Nat → Nat → α → Prop} {a : Option Addr} {cap : Nat} {l : List α} (h : RowL c by' B Q a cap l) (hB : ∀ k, B k → B' k) (hQ : ∀ b o x, B b → x ∈ l → Q b o x → Q' b o x) : RowL c by' B' Q' a cap l :=
 ⟨h.nil, h.le, h.max, h.fits, by
  rcases h.lie with h0 | ⟨b, o, e, hb, hx⟩
  ·exact .inl h0
  ·exact .inr ⟨b, o, e, hB b hb, fun i x hi => hQ _ _ _ hb (List.mem_of_getElem? hi) (hx i x hi)⟩⟩
theorem RowL.at {α : Type} {c by' : Nat} {B : Nat → Prop} {Q : Nat → Nat → α → Prop} {a : Option Addr} {cap : Nat} {l : List α} (h : RowL c by' B Q a cap l) {i : Nat} (hi : i < l.length) : ∃ b o, a = some ⟨b, o, none⟩ ∧ B b ∧ Q b (o + i * c) l[i] := by
 rcases h.lie with h0 | ⟨b, o, e, hb, hx⟩
 ·subst h0; simp at hi
 ·exact ⟨b, o, e, hb, hx i _ (List.getElem?_eq_getElem hi)⟩
def NumQ (W : World) (b o : Nat) (z : Int) : Prop := W.cell? ⟨b, o, none⟩ = some (.int .i64 z)
abbrev NumL (B : Nat → Prop) (W : World) (a : Option Addr) (cap : Nat) (l : List Int) : Prop := RowL 1 8 B (NumQ W) a cap l
def R64 (n : Int) : Prop := -9223372036854775808 ≤ n ∧ n ≤ 9223372036854775807
inductive ExAt (B : Nat → Prop) (W : World) : Nat → Nat → Pg.Ex → Prop
 | mk {b o : Nat} {op t n : Int} {s : ByteArray} {args : List Pg.Ex} {a : Option Addr} {c b' o' : Nat}
  (c0 : W.cell? ⟨b, o, none⟩ = some (.int .i64 op)) (c1 : W.cell? ⟨b, o + 1, none⟩ = some (.int .i64 t)) (c2 : W.cell? ⟨b, o + 2, none⟩ = some (.int .i64 n)) (c3 : W.cell? ⟨b, o + 3, none⟩ = some (.string s)) (c4 : W.cell? ⟨b, o + 4, none⟩ = some (.slice a args.length c))
  (rg : R64 n) (sz : s.size ≤ reachBytes) (nil : a = none → args = [] ∧ c = 0) (le : args.length ≤ c) (max : c ≤ maxLen) (fits : args.length * 64 ≤ reachBytes) (pl : args ≠ [] → a = some ⟨b', o', none⟩ ∧ B b')
  (all : ∀ i x, args[i]? = some x → ExAt B W b' (o' + i * 5) x) : ExAt B W b o (.mk op t n s args)
abbrev ExL (B : Nat → Prop) (W : World) (a : Option Addr) (cap : Nat) (l : List Pg.Ex) : Prop := RowL 5 64 B (ExAt B W) a cap l
structure ExC (B : Nat → Prop) (W : World) (b o : Nat) (x : Pg.Ex) (a : Option Addr) (c : Nat) : Prop where
 c0 : W.cell? ⟨b, o, none⟩ = some (.int .i64 x.op)
 c1 : W.cell? ⟨b, o + 1, none⟩ = some (.int .i64 x.t)
 c2 : W.cell? ⟨b, o + 2, none⟩ = some (.int .i64 x.n)
 c3 : W.cell? ⟨b, o + 3, none⟩ = some (.string x.s)
 c4 : W.cell? ⟨b, o + 4, none⟩ = some (.slice a x.args.length c)
 rg : R64 x.n
 sz : x.s.size ≤ reachBytes
 args : ExL B W a c x.args
theorem ExAt.row {B : Nat → Prop} {W : World} {b o : Nat} {x : Pg.Ex} (h : ExAt B W b o x) : ∃ a c, ExC B W b o x a c := by
 cases h with
 | mk c0 c1 c2 c3 c4 rg sz nil le max fits pl all =>
  refine ⟨_, _, c0, c1, c2, c3, c4, rg, sz, nil, le, max, fits, ?_⟩
  rename_i args _ _ _ _
  by_cases h0 : args = []
  ·exact .inl h0
  ·exact .inr ⟨_, _, (pl h0).1, (pl h0).2, all⟩
theorem ExC.at {B : Nat → Prop} {W : World} {b o : Nat} {x : Pg.Ex} {a : Option Addr} {c : Nat} (h : ExC B W b o x a c) : ExAt B W b o x := by
 obtain ⟨op, t, n, s, args⟩ := x
 obtain ⟨c0, c1, c2, c3, c4, rg, sz, h⟩ := h
 rcases h.lie with h0 | ⟨b', o', e, hb, hx⟩
 ·exact .mk (b' := 0) (o' := 0) c0 c1 c2 c3 c4 rg sz h.nil h.le h.max h.fits (fun hn => absurd h0 hn) (fun i x hi => by rw [show args = [] from h0] at hi; simp at hi)
 ·exact .mk c0 c1 c2 c3 c4 rg sz h.nil h.le h.max h.fits (fun _ => ⟨e, hb⟩) hx
theorem ExAt.ch {B B' : Nat → Prop} {W W' : World} {l : List Nat} (hg : Ch W W' l) (hl : ∀ k, B k → k ∉ l) (hB : ∀ k, B k → B' k) : ∀ {b o : Nat} {x : Pg.Ex}, ExAt B W b o x → b ∉ l → ExAt B' W' b o x
 | _, _, _, .mk c0 c1 c2 c3 c4 rg sz nil le max fits pl all, hb =>
  .mk (hg.cell c0 hb) (hg.cell c1 hb) (hg.cell c2 hb) (hg.cell c3 hb) (hg.cell c4 hb) rg sz nil le max fits (fun h => ⟨(pl h).1, hB _ (pl h).2⟩) (fun i x hi => ExAt.ch hg hl hB (all i x hi) (hl _ (pl (by intro h; rw [h] at hi; simp at hi)).2))
theorem ExL.ch {B B' : Nat → Prop} {W W' : World} {l : List Nat} {a : Option Addr} {cap : Nat} {xs : List Pg.Ex} (h : ExL B W a cap xs) (hg : Ch W W' l) (hl : ∀ k, B k → k ∉ l) (hB : ∀ k, B k → B' k) : ExL B' W' a cap xs := h.mono hB (fun b o x hb _ hx => ExAt.ch hg hl hB hx (hl b hb))
theorem NumL.ch {B B' : Nat → Prop} {W W' : World} {l : List Nat} {a : Option Addr} {cap : Nat} {xs : List Int} (h : NumL B W a cap xs) (hg : Ch W W' l) (hl : ∀ k, B k → k ∉ l) (hB : ∀ k, B k → B' k) : NumL B' W' a cap xs := h.mono hB (fun b o x hb _ hx => hg.cell hx (hl b hb))
inductive StAt (B : Nat → Prop) (W : World) : Nat → Nat → Pg.St → Prop
 | mk {b o : Nat} {op n : Int} {args : List Pg.Ex} {dst : List Int} {xa xb : List Pg.St} {a1 a2 a3 a4 : Option Addr} {k1 k2 k3 k4 b3 o3 b4 o4 : Nat}
  (c0 : W.cell? ⟨b, o, none⟩ = some (.int .i64 op)) (c1 : W.cell? ⟨b, o + 1, none⟩ = some (.int .i64 n)) (c2 : W.cell? ⟨b, o + 2, none⟩ = some (.slice a1 args.length k1)) (c3 : W.cell? ⟨b, o + 3, none⟩ = some (.slice a2 dst.length k2)) (c4 : W.cell? ⟨b, o + 4, none⟩ = some (.slice a3 xa.length k3)) (c5 : W.cell? ⟨b, o + 5, none⟩ = some (.slice a4 xb.length k4))
  (rg : R64 n) (h1 : ExL B W a1 k1 args) (h2 : NumL B W a2 k2 dst)
  (n3 : a3 = none → xa = [] ∧ k3 = 0) (l3 : xa.length ≤ k3) (m3 : k3 ≤ maxLen) (f3 : xa.length * 112 ≤ reachBytes) (p3 : xa ≠ [] → a3 = some ⟨b3, o3, none⟩ ∧ B b3) (q3 : ∀ i x, xa[i]? = some x → StAt B W b3 (o3 + i * 6) x)
  (n4 : a4 = none → xb = [] ∧ k4 = 0) (l4 : xb.length ≤ k4) (m4 : k4 ≤ maxLen) (f4 : xb.length * 112 ≤ reachBytes) (p4 : xb ≠ [] → a4 = some ⟨b4, o4, none⟩ ∧ B b4) (q4 : ∀ i x, xb[i]? = some x → StAt B W b4 (o4 + i * 6) x) : StAt B W b o (.mk op n args dst xa xb)
abbrev StL (B : Nat → Prop) (W : World) (a : Option Addr) (cap : Nat) (l : List Pg.St) : Prop := RowL 6 112 B (StAt B W) a cap l
structure StC (B : Nat → Prop) (W : World) (b o : Nat) (x : Pg.St) (a1 a2 a3 a4 : Option Addr) (k1 k2 k3 k4 : Nat) : Prop where
 c0 : W.cell? ⟨b, o, none⟩ = some (.int .i64 x.op)
 c1 : W.cell? ⟨b, o + 1, none⟩ = some (.int .i64 x.n)
 c2 : W.cell? ⟨b, o + 2, none⟩ = some (.slice a1 x.args.length k1)
 c3 : W.cell? ⟨b, o + 3, none⟩ = some (.slice a2 x.dst.length k2)
 c4 : W.cell? ⟨b, o + 4, none⟩ = some (.slice a3 x.a.length k3)
 c5 : W.cell? ⟨b, o + 5, none⟩ = some (.slice a4 x.b.length k4)
 rg : R64 x.n
 args : ExL B W a1 k1 x.args
 dst : NumL B W a2 k2 x.dst
 a : StL B W a3 k3 x.a
 b : StL B W a4 k4 x.b
theorem StAt.row {B : Nat → Prop} {W : World} {b o : Nat} {x : Pg.St} (h : StAt B W b o x) : ∃ a1 a2 a3 a4 k1 k2 k3 k4, StC B W b o x a1 a2 a3 a4 k1 k2 k3 k4 := by
 cases h with
 | mk c0 c1 c2 c3 c4 c5 rg h1 h2 n3 l3 m3 f3 p3 q3 n4 l4 m4 f4 p4 q4 =>
  refine ⟨_, _, _, _, _, _, _, _, c0, c1, c2, c3, c4, c5, rg, h1, h2, ⟨n3, l3, m3, f3, ?_⟩, ⟨n4, l4, m4, f4, ?_⟩⟩
  ·rename_i xa xb _ _ _ _ _ _ _ _ _ _ _ _
   by_cases h0 : xa = []
   ·exact .inl h0
   ·exact .inr ⟨_, _, (p3 h0).1, (p3 h0).2, q3⟩
  ·rename_i xa xb _ _ _ _ _ _ _ _ _ _ _ _
   by_cases h0 : xb = []
   ·exact .inl h0
   ·exact .inr ⟨_, _, (p4 h0).1, (p4 h0).2, q4⟩
theorem StC.at {B : Nat → Prop} {W : World} {b o : Nat} {x : Pg.St} {a1 a2 a3 a4 : Option Addr} {k1 k2 k3 k4 : Nat} (h : StC B W b o x a1 a2 a3 a4 k1 k2 k3 k4) : StAt B W b o x := by
 obtain ⟨op, n, args, dst, xa, xb⟩ := x
 obtain ⟨c0, c1, c2, c3, c4, c5, rg, h1, h2, h3, h4⟩ := h
 have g : ∀ {a : Option Addr} {k : Nat} {l : List Pg.St}, StL B W a k l → ∃ b' o', (l ≠ [] → a = some ⟨b', o', none⟩ ∧ B b') ∧ ∀ i x, l[i]? = some x → StAt B W b' (o' + i * 6) x := by
  intro a k l h
  rcases h.lie with h0 | ⟨b', o', e, hb, hx⟩
  ·exact ⟨0, 0, fun hn => absurd h0 hn, fun i x hi => by rw [h0] at hi; simp at hi⟩
  ·exact ⟨b', o', fun _ => ⟨e, hb⟩, hx⟩
 obtain ⟨b3, o3, p3, q3⟩ := g h3
 obtain ⟨b4, o4, p4, q4⟩ := g h4
 exact .mk c0 c1 c2 c3 c4 c5 rg h1 h2 h3.nil h3.le h3.max h3.fits p3 q3 h4.nil h4.le h4.max h4.fits p4 q4
theorem StAt.ch {B B' : Nat → Prop} {W W' : World} {l : List Nat} (hg : Ch W W' l) (hl : ∀ k, B k → k ∉ l) (hB : ∀ k, B k → B' k) : ∀ {b o : Nat} {x : Pg.St}, StAt B W b o x → b ∉ l → StAt B' W' b o x
 | _, _, _, .mk c0 c1 c2 c3 c4 c5 rg h1 h2 n3 l3 m3 f3 p3 q3 n4 l4 m4 f4 p4 q4, hb =>
  .mk (hg.cell c0 hb) (hg.cell c1 hb) (hg.cell c2 hb) (hg.cell c3 hb) (hg.cell c4 hb) (hg.cell c5 hb) rg (ExL.ch h1 hg hl hB) (NumL.ch h2 hg hl hB)
   n3 l3 m3 f3 (fun h => ⟨(p3 h).1, hB _ (p3 h).2⟩) (fun i x hi => StAt.ch hg hl hB (q3 i x hi) (hl _ (p3 (by intro h; rw [h] at hi; simp at hi)).2))
   n4 l4 m4 f4 (fun h => ⟨(p4 h).1, hB _ (p4 h).2⟩) (fun i x hi => StAt.ch hg hl hB (q4 i x hi) (hl _ (p4 (by intro h; rw [h] at hi; simp at hi)).2))
theorem StL.ch {B B' : Nat → Prop} {W W' : World} {l : List Nat} {a : Option Addr} {cap : Nat} {xs : List Pg.St} (h : StL B W a cap xs) (hg : Ch W W' l) (hl : ∀ k, B k → k ∉ l) (hB : ∀ k, B k → B' k) : StL B' W' a cap xs := h.mono hB (fun b o x hb _ hx => StAt.ch hg hl hB hx (hl b hb))
structure TpC (B : Nat → Prop) (W : World) (b o : Nat) (x : Pg.Tp) (a : Option Addr) (k : Nat) : Prop where
 c0 : W.cell? ⟨b, o, none⟩ = some (.int .i64 x.kind)
 c1 : W.cell? ⟨b, o + 1, none⟩ = some (.int .i64 x.elem)
 c2 : W.cell? ⟨b, o + 2, none⟩ = some (.int .i64 x.n)
 c3 : W.cell? ⟨b, o + 3, none⟩ = some (.slice a x.fields.length k)
 f : NumL B W a k x.fields
def TpAt (B : Nat → Prop) (W : World) (b o : Nat) (x : Pg.Tp) : Prop := ∃ a k, TpC B W b o x a k
abbrev TpL (B : Nat → Prop) (W : World) (a : Option Addr) (cap : Nat) (l : List Pg.Tp) : Prop := RowL 4 48 B (TpAt B W) a cap l
theorem TpAt.ch {B B' : Nat → Prop} {W W' : World} {l : List Nat} (hg : Ch W W' l) (hl : ∀ k, B k → k ∉ l) (hB : ∀ k, B k → B' k) {b o : Nat} {x : Pg.Tp} (h : TpAt B W b o x) (hb : b ∉ l) : TpAt B' W' b o x := by
 obtain ⟨a, k, h⟩ := h
 exact ⟨a, k, hg.cell h.c0 hb, hg.cell h.c1 hb, hg.cell h.c2 hb, hg.cell h.c3 hb, NumL.ch h.f hg hl hB⟩
theorem TpL.ch {B B' : Nat → Prop} {W W' : World} {l : List Nat} {a : Option Addr} {cap : Nat} {xs : List Pg.Tp} (h : TpL B W a cap xs) (hg : Ch W W' l) (hl : ∀ k, B k → k ∉ l) (hB : ∀ k, B k → B' k) : TpL B' W' a cap xs := h.mono hB (fun b o x hb _ hx => TpAt.ch hg hl hB hx (hl b hb))
structure FnC (B : Nat → Prop) (W : World) (b o : Nat) (x : Pg.Fn) (a1 a2 a3 : Option Addr) (k1 k2 k3 : Nat) : Prop where
 c0 : W.cell? ⟨b, o, none⟩ = some (.int .i64 x.params)
 c1 : W.cell? ⟨b, o + 1, none⟩ = some (.slice a1 x.locals.length k1)
 c2 : W.cell? ⟨b, o + 2, none⟩ = some (.slice a2 x.results.length k2)
 c3 : W.cell? ⟨b, o + 3, none⟩ = some (.slice a3 x.body.length k3)
 l : NumL B W a1 k1 x.locals
 r : NumL B W a2 k2 x.results
 b : StL B W a3 k3 x.body
def FnAt (B : Nat → Prop) (W : World) (b o : Nat) (x : Pg.Fn) : Prop := ∃ a1 a2 a3 k1 k2 k3, FnC B W b o x a1 a2 a3 k1 k2 k3
abbrev FnL (B : Nat → Prop) (W : World) (a : Option Addr) (cap : Nat) (l : List Pg.Fn) : Prop := RowL 4 80 B (FnAt B W) a cap l
theorem FnAt.ch {B B' : Nat → Prop} {W W' : World} {l : List Nat} (hg : Ch W W' l) (hl : ∀ k, B k → k ∉ l) (hB : ∀ k, B k → B' k) {b o : Nat} {x : Pg.Fn} (h : FnAt B W b o x) (hb : b ∉ l) : FnAt B' W' b o x := by
 obtain ⟨a1, a2, a3, k1, k2, k3, h⟩ := h
 exact ⟨a1, a2, a3, k1, k2, k3, hg.cell h.c0 hb, hg.cell h.c1 hb, hg.cell h.c2 hb, hg.cell h.c3 hb, NumL.ch h.l hg hl hB, NumL.ch h.r hg hl hB, StL.ch h.b hg hl hB⟩
theorem FnL.ch {B B' : Nat → Prop} {W W' : World} {l : List Nat} {a : Option Addr} {cap : Nat} {xs : List Pg.Fn} (h : FnL B W a cap xs) (hg : Ch W W' l) (hl : ∀ k, B k → k ∉ l) (hB : ∀ k, B k → B' k) : FnL B' W' a cap xs := h.mono hB (fun b o x hb _ hx => FnAt.ch hg hl hB hx (hl b hb))
structure PrC (B : Nat → Prop) (W : World) (x : Pg.Pr) (a1 a2 : Option Addr) (k1 k2 : Nat) : Prop where
 t : TpL B W a1 k1 x.types
 f : FnL B W a2 k2 x.funcs
theorem PrC.ch {B B' : Nat → Prop} {W W' : World} {l : List Nat} (hg : Ch W W' l) (hl : ∀ k, B k → k ∉ l) (hB : ∀ k, B k → B' k) {x : Pg.Pr} {a1 a2 : Option Addr} {k1 k2 : Nat} (h : PrC B W x a1 a2 k1 k2) : PrC B' W' x a1 a2 k1 k2 := ⟨TpL.ch h.t hg hl hB, FnL.ch h.f hg hl hB⟩
def PrAt (B : Nat → Prop) (W : World) (b o : Nat) (x : Pg.Pr) : Prop := ∃ a1 a2 k1 k2, W.cell? ⟨b, o, none⟩ = some (.slice a1 x.types.length k1) ∧ W.cell? ⟨b, o + 1, none⟩ = some (.slice a2 x.funcs.length k2) ∧ PrC B W x a1 a2 k1 k2
def Fits {H : Type} (t : TypeId) (d : DataW H) : Prop := ∀ n ∈ d.weights Tryz.prog t, n ≤ reachBytes
theorem weights_all {H : Type} {e : TypeId} : ∀ {l : List (DataW H)} {d : DataW H}, d ∈ l → ∀ n ∈ d.weights Tryz.prog e, n ∈ DataW.weightsAll Tryz.prog e l
 | d0 :: l, d, hd, n, hn => by
  simp only [DataW.weightsAll, List.mem_append]
  rcases List.mem_cons.1 hd with rfl | h
  ·exact .inl hn
  ·exact .inr (weights_all h n hn)
theorem Fits.len {H : Type} {t e : TypeId} {l r : List (DataW H)} (ht : Tryz.prog.underlying t = some (.slice e)) (h : Fits t (.slice l r)) (hb : 0 < Tryz.prog.bytesOf e) : l.length ≤ reachBytes := by
 have := h ((l.length + r.length) * Tryz.prog.bytesOf e) (by simp [DataW.weights, ht])
 refine Nat.le_trans ?_ this
 exact Nat.le_trans (Nat.le_add_right _ _) (Nat.le_mul_of_pos_right _ hb)
theorem Fits.elem {H : Type} {t e : TypeId} {l r : List (DataW H)} {d : DataW H} (ht : Tryz.prog.underlying t = some (.slice e)) (h : Fits t (.slice l r)) (hd : d ∈ l) : Fits e d := fun n hn =>
 h n (by simp only [DataW.weights, ht, List.mem_cons, List.mem_append]; exact .inr (.inl (weights_all hd n hn)))
theorem Fits.field {H : Type} {t : TypeId} {fs : Array Field} {xs : List (DataW H × List MemPlace)} {q : List MemPlace} {x y : DataW H × List MemPlace} {i : Nat} {f : Field} (ht : Tryz.prog.underlying t = some (.struct fs)) (h : Fits t x.1) (hx : x = (.agg (xs.map (·.1)), q)) (hf : fs[i]? = some f) (hy : xs[i]? = some y) : Fits f.type y.1 := fun n hn =>
 h n (by
  subst hx
  simp only [DataW.weights, ht]
  exact DataW.weights_mem_each (j := i) (t := f.type) (d := y.1) (by simp [hf]) (by simp [hy]) n hn)
theorem addr_add (b off n : Nat) : (⟨b, off, none⟩ : Addr).add n = ⟨b, off + n, none⟩ := by simp [Addr.add]
structure RowB {α : Type} (c by' : Nat) (Q : World → Nat → Nat → α → Prop) (W : World) (a : Option Addr) (len cap : Nat) (V : Nat → α) : Prop where
 nil : a = none → len = 0 ∧ cap = 0
 le : len ≤ cap
 max : cap ≤ maxLen
 fits : len * by' ≤ reachBytes
 bs : len = 0 ∨ ∃ b off, a = some ⟨b, off, none⟩ ∧ b < W.heap.size ∧ ∀ i, i < len → Q W b (off + i * c) (V i)
theorem Fits.lenB {H : Type} {t e : TypeId} {l r : List (DataW H)} (ht : Tryz.prog.underlying t = some (.slice e)) (h : Fits t (.slice l r)) : l.length * Tryz.prog.bytesOf e ≤ reachBytes := by
 have := h ((l.length + r.length) * Tryz.prog.bytesOf e) (by simp [DataW.weights, ht])
 exact Nat.le_trans (Nat.mul_le_mul_right _ (Nat.le_add_right _ _)) this
def NumC (W : World) (b o : Nat) (z : Int) : Prop := W.cell? ⟨b, o, none⟩ = some (.int .i64 z)
theorem RowB.num {W : World} {a : Option Addr} {len cap : Nat} {V : Nat → Int} (h : RowB 1 8 NumC W a len cap V) : NumIn W.heap.size W a len cap V :=
 ⟨h.le, h.max, by
  rcases h.bs with h0 | ⟨b, off, e, hl, hq⟩
  ·exact .inl h0
  ·exact .inr ⟨b, off, e, hl, fun i hi => by have := hq i hi; rw [Nat.mul_one] at this; exact this⟩⟩
end Go.Proofs.YtcfpnojbhojagaaGreat
namespace Go.Proofs.YtcfpnojbhojagaaGreat
set_option maxRecDepth 100000
set_option maxHeartbeats 32000000
open Go.RowKit
set_option linter.unusedVariables false
theorem open_rowL {α : Type} {t e : TypeId} {c by' : Nat} {H : Type} {enc : TypeId × Value → H} {W : World} {spare : Nat → Bool} {held : Bool} {fuel : Nat} {cs : List Value} {x : DataW H × List MemPlace} (Q : Nat → Nat → α → Prop)
  (ht : Tryz.prog.underlying t = some (.slice e)) (hc : Tryz.prog.cellsOf e = c) (c0 : 0 < c) (hby : Tryz.prog.bytesOf e = by') (hs : Fits t x.1)
  (each : ∀ n, n < fuel → ∀ (cs : List Value) (b o : Nat) (y : DataW H × List MemPlace), cs.length = c → b < W.heap.size → (∀ j v, cs[j]? = some v → W.cell? ⟨b, o + j, none⟩ = some v) → DataW.trod enc Tryz.prog W 0 spare held n e cs = some y → Fits e y.1 → ∃ z : α, Q b o z)
  (h : DataW.trod enc Tryz.prog W 0 spare held fuel t cs = some x) : ∃ a cap l, cs = [.slice a l.length cap] ∧ RowL c by' (· < W.heap.size) Q a cap l := by
 rcases DataW.trod_slice ht h with ⟨hcs, _⟩ | ⟨a', len, cap, elems, rest, n, hf, hcs, hxx, hb, hl, hm, hlen, hel, _, _⟩
 ·exact ⟨none, 0, [], hcs, fun _ => ⟨rfl, rfl⟩, Nat.le_refl _, Nat.zero_le _, by simp, .inl rfl⟩
 ·rw [hxx] at hs
  have hfl : len * by' ≤ reachBytes := by have := Fits.lenB ht hs; rw [hby] at this; simpa [hlen] using this
  by_cases h0 : len = 0
  ·subst h0
   exact ⟨_, cap, [], hcs, (fun h => by cases h), Nat.zero_le _, hm, by simp, .inl rfl⟩
  have get : ∀ i, i < len → ∃ cs' y, W.cells? 0 (a'.add (i * c)) c = some cs' ∧ DataW.trod enc Tryz.prog W 0 spare held n e cs' = some y ∧ y ∈ elems := by
   intro i hi
   have := hel i hi
   rw [List.getElem?_eq_getElem (by omega), hc] at this
   obtain ⟨cs', h1, h2⟩ := Option.bind_eq_some_iff.1 this
   exact ⟨cs', _, h1, h2, List.getElem_mem _⟩
  obtain ⟨b, off, spot⟩ := a'
  have h00 : spot = none ∧ b < W.heap.size := by
   obtain ⟨cs', y, h1, h2, _⟩ := get 0 (by omega)
   obtain ⟨_, hlen', hcell⟩ := World.cells?_some h1
   have k0 := hcell 0 (by omega)
   obtain ⟨v, hv⟩ : ∃ v, W.cell? ⟨b, off, spot⟩ = some v := by
    have : W.cell? ⟨b, off, spot⟩ = cs'[0]? := by simpa [Addr.add] using k0
    rw [List.getElem?_eq_getElem (by omega)] at this
    exact ⟨_, this⟩
   exact ⟨World.cell?_spot hv, World.block_lt_of_cell? _ _ hv⟩
  obtain ⟨rfl, hlt⟩ := h00
  have each' : ∀ i, i < len → ∃ z : α, Q b (off + i * c) z := by
   intro i hi
   obtain ⟨cs', y, h1, h2, h3⟩ := get i hi
   obtain ⟨_, hlen', hcell⟩ := World.cells?_some h1
   refine each n (by omega) cs' b (off + i * c) y hlen' hlt (fun j v hv => ?_) h2 (Fits.elem ht hs (List.mem_map.2 ⟨y, h3, rfl⟩))
   have hj : j < c := by rw [← hlen']; exact (List.getElem?_eq_some_iff.1 hv).1
   have k := hcell j hj
   rw [addr_add, addr_add] at k
   exact k.trans hv
  obtain ⟨z0, _⟩ := each' 0 (by omega)
  obtain ⟨f, hff⟩ : ∃ f : Nat → α, ∀ i, i < len → Q b (off + i * c) (f i) :=
   ⟨fun i => if hi : i < len then Classical.choose (each' i hi) else z0, fun i hi => by simp only [dif_pos hi]; exact Classical.choose_spec (each' i hi)⟩
  refine ⟨_, cap, (List.range len).map f, by simpa using hcs, (fun h => by cases h), by simpa using hl, hm, by simpa using hfl, .inr ⟨b, off, rfl, hlt, fun i x hx => ?_⟩⟩
  rw [List.getElem?_map] at hx
  obtain ⟨j, hj, rfl⟩ := Option.map_eq_some_iff.1 hx
  obtain ⟨hi, rfl⟩ : i < len ∧ i = j := by
   have h1 : i < len := by have := (List.getElem?_eq_some_iff.1 hj).1; simpa using this
   rw [List.getElem?_range h1] at hj
   exact ⟨h1, by simpa using hj⟩
  exact hff i hi
theorem open_numL {H : Type} {enc : TypeId × Value → H} {W : World} {spare : Nat → Bool} {held : Bool} {fuel : Nat} {cs : List Value} {x : DataW H × List MemPlace}
  (h : DataW.trod enc Tryz.prog W 0 spare held fuel 48 cs = some x) (hs : Fits 48 x.1) : ∃ a cap l, cs = [.slice a l.length cap] ∧ NumL (· < W.heap.size) W a cap l := by
 refine open_rowL (NumQ W) Tryz.underlying48 (c := 1) (by kernel_rfl) (by decide) (by kernel_rfl) hs (fun n hn cs b o y hl hb hc hy hz => ?_) h
 obtain ⟨z, e, _, f⟩ := DataW.trod_int Tryz.underlying3 hy
 subst e
 exact ⟨z, hc 0 _ rfl⟩
theorem open_exs {H : Type} {enc : TypeId × Value → H} {W : World} {spare : Nat → Bool} {held : Bool} (fuel : Nat) : ∀ {cs : List Value} {x : DataW H × List MemPlace}
  (h : DataW.trod enc Tryz.prog W 0 spare held fuel 43 cs = some x) (hs : Fits 43 x.1), ∃ a cap l, cs = [.slice a l.length cap] ∧ ExL (· < W.heap.size) W a cap l := by
 have k1 : Tryz.prog.cellsOf 3 = 1 := by kernel_rfl
 have k2 : Tryz.prog.cellsOf 2 = 1 := by kernel_rfl
 have k3 : Tryz.prog.cellsOf 9 = 1 := by kernel_rfl
 have k4 : Tryz.prog.cellsOf 43 = 1 := by kernel_rfl
 induction fuel using Nat.strongRecOn with
 | _ fuel ih =>
  intro cs x h hs
  refine open_rowL (ExAt (· < W.heap.size) W) Tryz.underlying43 (c := 5) (by kernel_rfl) (by decide) (by kernel_rfl) hs (fun n hn cs b o y hl hb hc hy hz => ?_) h
  obtain ⟨xs, kk, hk, hxy, _, hxl, hf⟩ := DataW.trod_struct Tryz.underlying45 hy
  match xs, hxl, cs, hl with
  | [z0, z1, z2, z3, z4], _, [v0, v1, v2, v3, v4], _ =>
   have g0 := hf 0 _ rfl
   have g1 := hf 1 _ rfl
   have g2 := hf 2 _ rfl
   have g3 := hf 3 _ rfl
   have g4 := hf 4 _ rfl
   simp [k1, k2, k3, k4] at g0 g1 g2 g3 g4
   obtain ⟨n0, e0, _⟩ := DataW.trod_int Tryz.underlying3 g0
   obtain ⟨n1, e1, _⟩ := DataW.trod_int Tryz.underlying3 g1
   obtain ⟨n2, e2, _, w2⟩ := DataW.trod_int Tryz.underlying2 g2
   obtain ⟨s3, e3, d3⟩ := DataW.trod_string Tryz.underlying9 g3
   have z3' := hz.field Tryz.underlying45 hxy (i := 3) rfl rfl
   have w3 : s3.size ≤ reachBytes := by
    have := z3' s3.size (by rw [d3.1]; simp [DataW.weights])
    exact this
   have w2 := bounds_i64 w2
   obtain ⟨a4, k4, l4, e4, f4⟩ := ih kk (by omega) g4 (hz.field Tryz.underlying45 hxy (i := 4) rfl rfl)
   simp at e0 e1 e2 e3 e4
   subst e0 e1 e2 e3 e4
   exact ⟨.mk n0 n1 n2 s3 l4, ExC.at (x := .mk n0 n1 n2 s3 l4) ⟨hc 0 _ rfl, hc 1 _ rfl, hc 2 _ rfl, hc 3 _ rfl, hc 4 _ rfl, by unfold R64; show _ ≤ n2 ∧ n2 ≤ _; omega, w3, f4⟩⟩
theorem open_sts {H : Type} {enc : TypeId × Value → H} {W : World} {spare : Nat → Bool} {held : Bool} (fuel : Nat) : ∀ {cs : List Value} {x : DataW H × List MemPlace}
  (h : DataW.trod enc Tryz.prog W 0 spare held fuel 49 cs = some x) (hs : Fits 49 x.1), ∃ a cap l, cs = [.slice a l.length cap] ∧ StL (· < W.heap.size) W a cap l := by
 have k1 : Tryz.prog.cellsOf 3 = 1 := by kernel_rfl
 have k2 : Tryz.prog.cellsOf 2 = 1 := by kernel_rfl
 have k3 : Tryz.prog.cellsOf 48 = 1 := by kernel_rfl
 have k4 : Tryz.prog.cellsOf 43 = 1 := by kernel_rfl
 have k5 : Tryz.prog.cellsOf 49 = 1 := by kernel_rfl
 induction fuel using Nat.strongRecOn with
 | _ fuel ih =>
  intro cs x h hs
  refine open_rowL (StAt (· < W.heap.size) W) Tryz.underlying49 (c := 6) (by kernel_rfl) (by decide) (by kernel_rfl) hs (fun n hn cs b o y hl hb hc hy hz => ?_) h
  obtain ⟨xs, kk, hk, hxy, _, hxl, hf⟩ := DataW.trod_struct Tryz.underlying51 hy
  match xs, hxl, cs, hl with
  | [z0, z1, z2, z3, z4, z5], _, [v0, v1, v2, v3, v4, v5], _ =>
   have g0 := hf 0 _ rfl
   have g1 := hf 1 _ rfl
   have g2 := hf 2 _ rfl
   have g3 := hf 3 _ rfl
   have g4 := hf 4 _ rfl
   have g5 := hf 5 _ rfl
   simp [k1, k2, k3, k4, k5] at g0 g1 g2 g3 g4 g5
   obtain ⟨n0, e0, _⟩ := DataW.trod_int Tryz.underlying3 g0
   obtain ⟨n1, e1, _, w1⟩ := DataW.trod_int Tryz.underlying2 g1
   have w1 := bounds_i64 w1
   obtain ⟨a2, c2, l2, e2, f2⟩ := open_exs kk g2 (hz.field Tryz.underlying51 hxy (i := 2) rfl rfl)
   obtain ⟨a3, c3, l3, e3, f3⟩ := open_numL g3 (hz.field Tryz.underlying51 hxy (i := 3) rfl rfl)
   obtain ⟨a4, c4, l4, e4, f4⟩ := ih kk (by omega) g4 (hz.field Tryz.underlying51 hxy (i := 4) rfl rfl)
   obtain ⟨a5, c5, l5, e5, f5⟩ := ih kk (by omega) g5 (hz.field Tryz.underlying51 hxy (i := 5) rfl rfl)
   simp at e0 e1 e2 e3 e4 e5
   subst e0 e1 e2 e3 e4 e5
   exact ⟨.mk n0 n1 l2 l3 l4 l5, StC.at (x := .mk n0 n1 l2 l3 l4 l5) ⟨hc 0 _ rfl, hc 1 _ rfl, hc 2 _ rfl, hc 3 _ rfl, hc 4 _ rfl, hc 5 _ rfl, by unfold R64; show _ ≤ n1 ∧ n1 ≤ _; omega, f2, f3, f4, f5⟩⟩
theorem open_tps {H : Type} {enc : TypeId × Value → H} {W : World} {spare : Nat → Bool} {held : Bool} {fuel : Nat} {cs : List Value} {x : DataW H × List MemPlace}
  (h : DataW.trod enc Tryz.prog W 0 spare held fuel 24 cs = some x) (hs : Fits 24 x.1) : ∃ a cap l, cs = [.slice a l.length cap] ∧ TpL (· < W.heap.size) W a cap l := by
 have k1 : Tryz.prog.cellsOf 3 = 1 := by kernel_rfl
 have k3 : Tryz.prog.cellsOf 48 = 1 := by kernel_rfl
 refine open_rowL (TpAt (· < W.heap.size) W) Tryz.underlying24 (c := 4) (by kernel_rfl) (by decide) (by kernel_rfl) hs (fun n hn cs b o y hl hb hc hy hz => ?_) h
 obtain ⟨xs, kk, hk, hxy, _, hxl, hf⟩ := DataW.trod_struct Tryz.underlying61 hy
 match xs, hxl, cs, hl with
 | [z0, z1, z2, z3], _, [v0, v1, v2, v3], _ =>
  have g0 := hf 0 _ rfl
  have g1 := hf 1 _ rfl
  have g2 := hf 2 _ rfl
  have g3 := hf 3 _ rfl
  simp [k1, k3] at g0 g1 g2 g3
  obtain ⟨n0, e0, _⟩ := DataW.trod_int Tryz.underlying3 g0
  obtain ⟨n1, e1, _⟩ := DataW.trod_int Tryz.underlying3 g1
  obtain ⟨n2, e2, _⟩ := DataW.trod_int Tryz.underlying3 g2
  obtain ⟨a3, c3, l3, e3, f3⟩ := open_numL g3 (hz.field Tryz.underlying61 hxy (i := 3) rfl rfl)
  simp at e0 e1 e2 e3
  subst e0 e1 e2 e3
  exact ⟨⟨n0, n1, n2, l3⟩, a3, c3, hc 0 _ rfl, hc 1 _ rfl, hc 2 _ rfl, hc 3 _ rfl, f3⟩
theorem open_fns {H : Type} {enc : TypeId × Value → H} {W : World} {spare : Nat → Bool} {held : Bool} {fuel : Nat} {cs : List Value} {x : DataW H × List MemPlace}
  (h : DataW.trod enc Tryz.prog W 0 spare held fuel 25 cs = some x) (hs : Fits 25 x.1) : ∃ a cap l, cs = [.slice a l.length cap] ∧ FnL (· < W.heap.size) W a cap l := by
 have k1 : Tryz.prog.cellsOf 3 = 1 := by kernel_rfl
 have k3 : Tryz.prog.cellsOf 48 = 1 := by kernel_rfl
 have k5 : Tryz.prog.cellsOf 49 = 1 := by kernel_rfl
 refine open_rowL (FnAt (· < W.heap.size) W) Tryz.underlying25 (c := 4) (by kernel_rfl) (by decide) (by kernel_rfl) hs (fun n hn cs b o y hl hb hc hy hz => ?_) h
 obtain ⟨xs, kk, hk, hxy, _, hxl, hf⟩ := DataW.trod_struct Tryz.underlying53 hy
 match xs, hxl, cs, hl with
 | [z0, z1, z2, z3], _, [v0, v1, v2, v3], _ =>
  have g0 := hf 0 _ rfl
  have g1 := hf 1 _ rfl
  have g2 := hf 2 _ rfl
  have g3 := hf 3 _ rfl
  simp [k1, k3, k5] at g0 g1 g2 g3
  obtain ⟨n0, e0, _⟩ := DataW.trod_int Tryz.underlying3 g0
  obtain ⟨a1, c1, l1, e1, f1⟩ := open_numL g1 (hz.field Tryz.underlying53 hxy (i := 1) rfl rfl)
  obtain ⟨a2, c2, l2, e2, f2⟩ := open_numL g2 (hz.field Tryz.underlying53 hxy (i := 2) rfl rfl)
  obtain ⟨a3, c3, l3, e3, f3⟩ := open_sts kk g3 (hz.field Tryz.underlying53 hxy (i := 3) rfl rfl)
  simp at e0 e1 e2 e3
  subst e0 e1 e2 e3
  exact ⟨⟨n0, l1, l2, l3⟩, a1, a2, a3, c1, c2, c3, hc 0 _ rfl, hc 1 _ rfl, hc 2 _ rfl, hc 3 _ rfl, f1, f2, f3⟩
theorem open_prs {H : Type} {enc : TypeId × Value → H} {W : World} {spare : Nat → Bool} {held : Bool} {fuel : Nat} {cs : List Value} {x : DataW H × List MemPlace}
  (h : DataW.trod enc Tryz.prog W 0 spare held fuel 22 cs = some x) (hs : Fits 22 x.1) : ∃ a cap l, cs = [.slice a l.length cap] ∧ RowL 2 48 (· < W.heap.size) (PrAt (· < W.heap.size) W) a cap l := by
 have k1 : Tryz.prog.cellsOf 24 = 1 := by kernel_rfl
 have k2 : Tryz.prog.cellsOf 25 = 1 := by kernel_rfl
 refine open_rowL (PrAt (· < W.heap.size) W) Tryz.underlying22 (c := 2) (by kernel_rfl) (by decide) (by kernel_rfl) hs (fun n hn cs b o y hl hb hc hy hz => ?_) h
 obtain ⟨xs, kk, hk, hxy, _, hxl, hf⟩ := DataW.trod_struct Tryz.underlying27 hy
 match xs, hxl, cs, hl with
 | [z0, z1], _, [v0, v1], _ =>
  have g0 := hf 0 _ rfl
  have g1 := hf 1 _ rfl
  simp [k1, k2] at g0 g1
  obtain ⟨a0, c0, l0, e0, f0⟩ := open_tps g0 (hz.field Tryz.underlying27 hxy (i := 0) rfl rfl)
  obtain ⟨a1, c1, l1, e1, f1⟩ := open_fns g1 (hz.field Tryz.underlying27 hxy (i := 1) rfl rfl)
  simp at e0 e1
  subst e0 e1
  exact ⟨⟨l0, l1⟩, a0, a1, c0, c1, hc 0 _ rfl, hc 1 _ rfl, f0, f1⟩
end Go.Proofs.YtcfpnojbhojagaaGreat
namespace Go.Proofs.YtcfpnojbhojagaaGreat
open Go.RowKit
set_option linter.unusedVariables false
section
variable {P : Program} {ops : Array Oper}
def dstOf (ops : Array Oper) (i : Nat) : Option Tmp := (ops[i]?).bind (·.dst)
def frV (ops : Array Oper) (a0 : Act) (V : Nat → Value) : Nat → Act
 | 0 => a0
 | i + 1 => (frV ops a0 V i).put (dstOf ops i) (V i)
def depsOf (ops : Array Oper) (i : Nat) : List Nat := (List.range i).filter fun j => Region.waitsFor .any ops i j
def lookB (ops : Array Oper) (n : Nat) : Bool :=
 (List.range n).all fun i => match ops[i]? with
  | none => false
  | some o => o.guard.isNone && (o.looksAt ops).all fun t => (List.range n).all fun k => !(dstOf ops k == some t) || (decide (k < i) && Region.waitsFor .any ops i k)
theorem lookB_spec {n i : Nat} {o : Oper} (h : lookB ops n = true) (hi : i < n) (ho : ops[i]? = some o) : o.guard = none ∧ ∀ t, t ∈ o.looksAt ops → ∀ k, k < n → dstOf ops k = some t → k < i ∧ Region.waitsFor .any ops i k = true := by
 have h1 := List.all_eq_true.1 h i (List.mem_range.2 hi)
 simp only [ho, Bool.and_eq_true, Option.isNone_iff_eq_none, List.all_eq_true, List.mem_range, Bool.or_eq_true, Bool.not_eq_true', beq_eq_false_iff_ne, decide_eq_true_eq] at h1
 refine ⟨h1.1, fun t ht k hk hd => ?_⟩
 rcases h1.2 t ht k hk with h2 | h2
 ·exact absurd hd h2
 ·exact h2
structure FrInv (ops : Array Oper) (n : Nat) (a0 : Act) (Ψ : Nat → Value → World → Prop) (listed : Array Bool) (a : Act) (w : World) : Prop where
 size : a.tmps.size = a0.tmps.size
 defers : a.defers = a0.defers
 old : ∀ s, (∀ i, i < n → listed.getD i false = true → dstOf ops i ≠ some s) → a.tmps[s]? = a0.tmps[s]?
 val : ∀ i d, i < n → listed.getD i false = true → dstOf ops i = some d → Ψ i (a.tmps.getD d undef) w
 non : ∀ i, i < n → listed.getD i false = true → dstOf ops i = none → Ψ i undef w
def valOf (ops : Array Oper) (a : Act) (i : Nat) : Value := match dstOf ops i with | some d => a.tmps.getD d undef | none => undef
theorem put_size (a : Act) (d : Option Tmp) (v : Value) : (a.put d v).tmps.size = a.tmps.size := by cases d <;> simp [Act.put]
theorem put_same (a : Act) (d : Tmp) (v : Value) (h : d < a.tmps.size) : (a.put (some d) v).tmps[d]? = some v := by simp [Act.put, h]
theorem put_other (a : Act) {d : Option Tmp} {s : Nat} (v : Value) (h : d ≠ some s) : (a.put d v).tmps[s]? = a.tmps[s]? := by
 cases d with
 | none => rfl
 | some d =>
  have : d ≠ s := fun e => h (by rw [e])
  simp [Act.put, Array.getElem?_setIfInBounds_ne this]
theorem frV_size (a0 : Act) (V : Nat → Value) (i : Nat) : (frV ops a0 V i).tmps.size = a0.tmps.size := by
 induction i with
 | zero => rfl
 | succ i ih => rw [frV, put_size]; exact ih
theorem frV_defers (a0 : Act) (V : Nat → Value) (i : Nat) : (frV ops a0 V i).defers = a0.defers := by
 induction i with
 | zero => rfl
 | succ i ih => rw [frV, put_defers]; exact ih
theorem frV_in (a0 a : Act) (hs : a.tmps.size = a0.tmps.size) (i : Nat) : ∀ s, (∃ j, j < i ∧ dstOf ops j = some s) → s < a0.tmps.size → (frV ops a0 (valOf ops a) i).tmps[s]? = a.tmps[s]? := by
 induction i with
 | zero => rintro s ⟨j, hj, _⟩; omega
 | succ i ih =>
  rintro s ⟨j, hj, hd⟩ hlt
  rw [frV]
  by_cases he : dstOf ops i = some s
  ·rw [he, put_same _ _ _ (by rw [frV_size]; exact hlt)]
   unfold valOf
   rw [he]
   simp [hs, hlt]
  ·rw [put_other _ _ he]
   refine ih s ⟨j, ?_, hd⟩ hlt
   rcases Nat.lt_succ_iff_lt_or_eq.1 hj with h | h
   ·exact h
   ·subst h; exact absurd hd he
theorem frV_out (a0 : Act) (V : Nat → Value) (i : Nat) : ∀ s, (∀ j, j < i → dstOf ops j ≠ some s) → (frV ops a0 V i).tmps[s]? = a0.tmps[s]? := by
 induction i with
 | zero => intro s _; rfl
 | succ i ih =>
  intro s h
  rw [frV, put_other _ _ (h i (by omega))]
  exact ih s fun j hj => h j (by omega)
def stepV (P : Program) (ops : Array Oper) (Ψ : Nat → Value → World → Prop) (i : Nat) (a : Act) (w : World) : Prop :=
 match ops[i]? with
 | none => False
 | some o => match (execOp a.eval o).run P w with
  | .ok (.value v) w' => w.grownBy w' none ∧ Ψ i v w'
  | .ok .skip w' => w.grownBy w' none ∧ Ψ i undef w'
  | .ok (.enter f args) w' => Calls P f args w' (fun e w'' => ∃ v, e = .returned v ∧ w.grownBy w'' none ∧ Ψ i v w'')
  | _ => False
def dstB (ops : Array Oper) (n sz : Nat) : Bool :=
 (List.range n).all fun i => (match dstOf ops i with | some d => decide (d < sz) | none => false) && (List.range n).all fun j => i == j || dstOf ops i == none || !(dstOf ops i == dstOf ops j)
theorem dstB_lt {n sz i d : Nat} (h : dstB ops n sz = true) (hi : i < n) (hd : dstOf ops i = some d) : d < sz := by
 have h1 := List.all_eq_true.1 h i (List.mem_range.2 hi)
 simp only [hd, Bool.and_eq_true, decide_eq_true_eq] at h1
 exact h1.1
theorem dstB_some {n sz i : Nat} (h : dstB ops n sz = true) (hi : i < n) : dstOf ops i ≠ none := by
 have h1 := List.all_eq_true.1 h i (List.mem_range.2 hi)
 intro e
 simp [e] at h1
theorem dstB_ne {n sz i j d : Nat} (h : dstB ops n sz = true) (hi : i < n) (hj : j < n) (hij : i ≠ j) (hd : dstOf ops i = some d) : dstOf ops j ≠ some d := by
 have h1 := List.all_eq_true.1 h i (List.mem_range.2 hi)
 simp only [Bool.and_eq_true] at h1
 have h2 := List.all_eq_true.1 h1.2 j (List.mem_range.2 hj)
 simp only [hd, Bool.or_eq_true, beq_iff_eq, hij, false_or, Bool.not_eq_true', beq_eq_false_iff_ne] at h2
 rcases h2 with h2 | h2
 ·simp at h2
 ·exact fun e => h2 e.symm
def lexed (m : Nat) : Nat → Array Bool
 | 0 => Array.replicate m false
 | k + 1 => (lexed m k).setIfInBounds k true
theorem lexed_size (m k : Nat) : (lexed m k).size = m := by
 induction k with
 | zero => simp [lexed]
 | succ k ih => simp [lexed, ih]
theorem lexed_get (m : Nat) : ∀ k j, j < m → (lexed m k).getD j false = decide (j < k) := by
 intro k
 induction k with
 | zero => intro j hj; simp [lexed, hj]
 | succ k ih =>
  intro j hj
  by_cases hkj : k = j
  ·subst hkj
   have : k < (lexed m k).size := by rw [lexed_size]; exact hj
   simp [lexed, this]
  ·rw [lexed, getD_set_ne false hkj, ih j hj]
   simp; omega
theorem lexHead_at {md : Region.Mode} {g : Nat} (m : Nat) : ∀ f k, Region.lexHead md ops g f k (lexed m k) = true → ∀ j, k ≤ j → j < k + f → j ∈ Region.ready md ops (lexed m j) := by
 intro f
 induction f with
 | zero => intro k _ j h1 h2; omega
 | succ f ih =>
  intro k h j h1 h2
  simp only [Region.lexHead, Bool.and_eq_true] at h
  by_cases hj : j = k
  ·subst hj; simpa using h.1.1
  ·exact ih (k + 1) h.2 j (by omega) (by omega)
theorem lexHead_end {md : Region.Mode} {g : Nat} (m : Nat) : ∀ f k, Region.lexHead md ops g f k (lexed m k) = true → Region.seqB md ops g (k + f) (lexed m (k + f)) = true := by
 intro f
 induction f with
 | zero => intro k h; exact h
 | succ f ih =>
  intro k h
  simp only [Region.lexHead, Bool.and_eq_true] at h
  have := ih (k + 1) h.2
  rwa [show k + 1 + f = k + (f + 1) by omega] at this
def left (listed : Array Bool) (n : Nat) : Nat := ((List.range n).filter fun i => !listed.getD i false).length
theorem left_set {listed : Array Bool} {n i : Nat} (hi : i < n) (h : listed.getD i true = false) : left listed n = left (listed.setIfInBounds i true) n + 1 := by
 have hlt : i < listed.size := by
  rcases Nat.lt_or_ge i listed.size with h' | h'
  ·exact h'
  ·simp [Array.getElem?_eq_none h'] at h
 unfold left
 induction n with
 | zero => omega
 | succ n ih =>
  rw [List.range_succ, List.filter_append, List.filter_append, List.length_append, List.length_append]
  by_cases hin : i = n
  ·subst hin
   have e1 : (List.range i).filter (fun j => !listed.getD j false) = (List.range i).filter (fun j => !(listed.setIfInBounds i true).getD j false) := by
    refine List.filter_congr fun j hj => ?_
    rw [getD_set_ne false (by have := List.mem_range.1 hj; omega)]
   rw [e1]
   have e2 : (listed.setIfInBounds i true).getD i false = true := by simp [hlt]
   have e3 : listed.getD i false = false := getD_both h
   have e4 : List.filter (fun j => !listed.getD j false) [i] = [i] := by simp only [List.filter_cons, e3]; rfl
   have e5 : List.filter (fun j => !(listed.setIfInBounds i true).getD j false) [i] = [] := by simp only [List.filter_cons, e2]; rfl
   rw [e4, e5]
   rfl
  ·rw [ih (by omega)]
   have e6 : List.filter (fun j => !(listed.setIfInBounds i true).getD j false) [n] = List.filter (fun j => !listed.getD j false) [n] := by simp only [List.filter_cons, List.filter_nil, getD_set_ne false hin]
   rw [e6]
   omega
theorem left_zero {listed : Array Bool} {n : Nat} (h : left listed n = 0) : ∀ i, i < n → listed.getD i false = true := by
 intro i hi
 unfold left at h
 have := List.eq_nil_of_length_eq_zero h
 have h2 := List.filter_eq_nil_iff.1 this i (List.mem_range.2 hi)
 simpa using h2
theorem left_pos {listed : Array Bool} {n : Nat} (h : left listed n ≠ 0) : ∃ i, i < n ∧ listed.getD i false = false ∧ ∀ j, j < i → listed.getD j false = true := by
 have hex : ∃ i, i < n ∧ listed.getD i false = false := by
  refine Classical.byContradiction fun hno => h ?_
  unfold left
  rw [List.length_eq_zero_iff, List.filter_eq_nil_iff]
  intro i hi
  have : listed.getD i false ≠ false := fun e => hno ⟨i, List.mem_range.1 hi, e⟩
  simpa using this
 obtain ⟨i, hi⟩ := hex
 induction i using Nat.strongRecOn with
 | _ i ih =>
  by_cases hall : ∀ j, j < i → listed.getD j false = true
  ·exact ⟨i, hi.1, hi.2, hall⟩
  ·have : ∃ j, j < i ∧ listed.getD j false = false := by
    refine Classical.byContradiction fun hno => hall fun j hj => ?_
    have : listed.getD j false ≠ false := fun e => hno ⟨j, hj, e⟩
    simpa using this
   obtain ⟨j, hj, hjf⟩ := this
   exact ih j hj ⟨by omega, hjf⟩
theorem waits_listed {listed : Array Bool} {i j : Nat} (hr : i ∈ Region.ready .any ops listed) (h : Region.waitsFor .any ops i j = true) : listed.getD j false = true := by
 obtain ⟨_, o, ho, hall⟩ := mem_ready.1 hr
 obtain ⟨o', ho', e, he, hb, hon⟩ := Region.waitsFor_spec h
 obtain rfl : o' = o := Option.some.inj (ho'.symm.trans ho)
 rw [← hon]
 exact hall e he hb
theorem eval_same {a b : Act} {x : Operand} (h : ∀ t, x = .tmp t → a.tmps[t]? = b.tmps[t]?) : a.eval x = b.eval x := by
 cases x with
 | tmp t =>
  have := h t rfl
  simp only [Act.eval, Array.getD_eq_getD_getElem?, this]
 | _ => rfl
theorem any_of_inv {n : Nat} {a0 : Act} {W : World} {Q : Exit → Act → World → Prop} {Ψ : Nat → Value → World → Prop} {l : List Oper} (hl : ops = l.toArray)
  (hst : ∀ i v w w', i < n → Ψ i v w → w.grownBy w' none → Ψ i v w')
  (hsel : Region.noSelect ops = true) (hn : n < ops.size) (hs : Region.sinkB .any ops n = true) (hc : Region.chainB .any ops n = true) (hlex : Region.lexHead .any ops (ops.size - n) n 0 (lexed ops.size 0) = true)
  (hL : lookB ops n = true) (hD : dstB ops n a0.tmps.size = true)
  (hstep : ∀ i, i < n → ∀ V w', W.grownBy w' none → (∀ j, (depsOf ops i).contains j = true → Ψ j (V j) w') → stepV P ops Ψ i (frV ops a0 V i) w')
  (hend : ∀ V w', W.grownBy w' none → (∀ i, i < n → Ψ i (V i) w') → wpList P ops Q (l.drop n) (frV ops a0 V n) w') (f : Nat) :
  ∀ listed a w, left listed n = f → HeadInv .any ops n listed → FrInv ops n a0 Ψ listed a w → W.grownBy w none → wpAny P .any ops Q (f + (ops.size - n)) listed a w := by
 have hval : ∀ {listed a w i}, FrInv ops n a0 Ψ listed a w → i < n → listed.getD i false = true → Ψ i (valOf ops a i) w := by
  intro listed a w i inv hi hli
  unfold valOf
  cases hd : dstOf ops i with
  | none => exact inv.non i hi hli hd
  | some d => exact inv.val i d hi hli hd
 induction f with
 | zero =>
  intro listed a w hf hinv inv hg
  have hall := left_zero hf
  have ea : a = frV ops a0 (valOf ops a) n := by
   obtain ⟨tm, df⟩ := a
   have h1 : tm = (frV ops a0 (valOf ops ⟨tm, df⟩) n).tmps := by
    apply Array.ext_getElem?
    intro s
    by_cases hex : ∃ j, j < n ∧ dstOf ops j = some s
    ·obtain ⟨j, hj, hd⟩ := hex
     exact (frV_in a0 ⟨tm, df⟩ inv.size n s ⟨j, hj, hd⟩ (dstB_lt hD hj hd)).symm
    ·have hno : ∀ j, j < n → dstOf ops j ≠ some s := fun j hj hd => hex ⟨j, hj, hd⟩
     rw [frV_out a0 _ n s hno]
     exact inv.old s fun i hi _ => hno i hi
   have h2 : df = (frV ops a0 (valOf ops ⟨tm, df⟩) n).defers := by rw [frV_defers]; exact inv.defers
   generalize frV ops a0 (valOf ops ⟨tm, df⟩) n = b at *
   obtain ⟨bt, bd⟩ := b
   simp_all
  have el : listed = lexed ops.size n := by
   apply Array.ext
   ·rw [lexed_size]; exact hinv.size
   ·intro i h1 h2
    have e1 := lexed_get ops.size n i (by rw [← hinv.size]; exact h1)
    by_cases hin : i < n
    ·have e2 := hall i hin
     have : (lexed ops.size n).getD i false = true := by rw [e1]; simp [hin]
     simp [h1, h2] at e2 this
     rw [e2, this]
    ·have e2 := getD_both (hinv.tail i (by omega) (by rw [← hinv.size]; exact h1))
     have : (lexed ops.size n).getD i false = false := by rw [e1]; simp [hin]
     simp [h1, h2] at e2 this
     rw [e2, this]
  have hw := hend (valOf ops a) w hg fun i hi => hval inv hi (hall i hi)
  rw [← ea] at hw
  have hse := lexHead_end ops.size n 0 (by simpa using hlex)
  rw [Nat.zero_add] at hse
  have hdl : (l.drop n).length = ops.size - n := by rw [hl]; simp
  have T := wpAny_of_seq (md := .any) (P := P) (ops := ops) (Q' := Q) (l.drop n) n listed a w (fun j => by rw [hl]; simp [List.getElem?_drop]) (by rw [hdl, el]; exact hse) hw
  rw [hdl] at T
  rw [Nat.zero_add]
  exact T
 | succ f ih =>
  intro listed a w hf hinv inv hg
  obtain ⟨k, hk, hkf, hkall⟩ := left_pos (by rw [hf]; exact Nat.succ_ne_zero f)
  have hkt : listed.getD k true = false := getD_in (by rw [hinv.size]; omega) hkf
  have hkr : k ∈ Region.ready .any ops listed := by
   have h0 := lexHead_at ops.size n 0 (by simpa using hlex) k (Nat.zero_le _) (by omega)
   obtain ⟨_, o, ho, hall⟩ := mem_ready.1 h0
   refine mem_ready.2 ⟨hkt, o, ho, fun e he hb => ?_⟩
   have h1 := hall e he hb
   have h2 : e.on < ops.size := by
    rcases Nat.lt_or_ge e.on (lexed ops.size k).size with h' | h'
    ·rw [lexed_size] at h'; exact h'
    ·simp [Array.getElem?_eq_none h'] at h1
   rw [lexed_get ops.size k e.on h2] at h1
   exact hkall e.on (by simpa using h1)
  rw [Nat.add_right_comm]
  refine ⟨fun h0 => absurd h0 (List.ne_nil_of_mem hkr), fun i hi => ?_⟩
  have hin : i < n := Nat.lt_of_not_le fun h => tail_waits hs hc hn hinv _ k rfl hk hkt i h hi
  obtain ⟨hiun, o, ho, hall⟩ := mem_ready.1 hi
  obtain ⟨hgd, hlk⟩ := lookB_spec hL hin ho
  have hd : dstOf ops i = o.dst := by unfold dstOf; rw [ho]; rfl
  have S := hstep i hin (valOf ops a) w hg fun j hj => by
   have hj' := List.mem_filter.1 (show j ∈ depsOf ops i by simpa using hj)
   have hlt := List.mem_range.1 hj'.1
   exact hval inv (by omega) (waits_listed hi hj'.2)
  unfold stepV at S
  simp only [ho] at S
  have hex : execOp a.eval o = execOp (frV ops a0 (valOf ops a) i).eval o := by
   refine execOp_congr o (fun cs b => Region.noSelect_spec hsel i o cs b ho) fun x hx => eval_same fun t ht => ?_
   subst ht
   have htl : t ∈ o.looksAt ops := List.mem_append_left _ (List.mem_filterMap.2 ⟨.tmp t, by simpa using hx, rfl⟩)
   by_cases hexi : ∃ j, j < n ∧ dstOf ops j = some t
   ·obtain ⟨j, hj, hdj⟩ := hexi
    obtain ⟨hji, _⟩ := hlk t htl j hj hdj
    exact (frV_in a0 a inv.size i t ⟨j, hji, hdj⟩ (dstB_lt hD hj hdj)).symm
   ·have hno : ∀ j, j < n → dstOf ops j ≠ some t := fun j hj hd => hexi ⟨j, hj, hd⟩
    rw [frV_out a0 _ i t fun j hj => hno j (by omega)]
    exact inv.old t fun j hj _ => hno j hj
  have next : ∀ v w', w.grownBy w' none → Ψ i v w' → wpAny P .any ops Q (f + (ops.size - n)) (listed.setIfInBounds i true) (a.put o.dst v) w' := by
   intro v w' hg' hv
   have hlf : left (listed.setIfInBounds i true) n = f := by have := left_set hin hiun; omega
   refine ih _ _ _ hlf (hinv.set hi hin) ?_ (gtr hg hg')
   have hset : ∀ j, j ≠ i → (listed.setIfInBounds i true).getD j false = true → listed.getD j false = true := fun j hj h => by rwa [getD_set_ne false (Ne.symm hj)] at h
   refine ⟨(put_size _ _ _).trans inv.size, (put_defers _ _ _).trans inv.defers, fun s hs' => ?_, fun j d hj hjl hjd => ?_, fun j hj hjl hjd => ?_⟩
   ·have h1 : dstOf ops i ≠ some s := hs' i hin (by
     have : i < listed.size := by rw [hinv.size]; omega
     simp [this])
    rw [put_other _ _ (by rw [← hd]; exact h1)]
    exact inv.old s fun j hj hjl => hs' j hj (getD_set_true hjl)
   ·by_cases hji : j = i
    ·subst hji
     have e : o.dst = some d := by rw [← hd]; exact hjd
     rw [e]
     have hlt : d < a.tmps.size := by rw [inv.size]; exact dstB_lt hD hin hjd
     have := put_same a d v hlt
     rw [Array.getD_eq_getD_getElem?, this]
     exact hv
    ·have hne : o.dst ≠ some d := by rw [← hd]; exact dstB_ne hD hj hin hji hjd
     have := put_other a v hne
     rw [Array.getD_eq_getD_getElem?, this, ← Array.getD_eq_getD_getElem?]
     exact hst _ _ _ _ hj (inv.val j d hj (hset j hji hjl) hjd) hg'
   ·by_cases hji : j = i
    ·subst hji
     exact absurd hjd (dstB_some hD hin)
    ·exact hst _ _ _ _ hj (inv.non j hj (hset j hji hjl) hjd) hg'
  unfold wpOp
  simp only [ho]
  have hwa : Region.wanted o (yielded ops a.tmps) = true := by unfold Region.wanted; rw [hgd]
  rw [if_pos hwa]
  refine .inl ?_
  unfold Oper.wp
  rw [hex]
  generalize (execOp (frV ops a0 (valOf ops a) i).eval o).run P w = r at S
  match r, S with
  | .ok (.value v) w', S => exact next v w' S.1 S.2
  | .ok .skip w', S => exact next undef w' S.1 S.2
  | .ok (.enter fn args) w', S =>
   rw [Oper.upon_enter]
   refine Calls.mono S ?_
   rintro e w'' ⟨v, rfl, h1, h2⟩
   exact next v w'' h1 h2
theorem region_inv {id : Nat} {Q : Exit → Act → World → Prop} {a : Act} {w : World} {l : List Oper} (n : Nat) (Ψ : Nat → Value → World → Prop)
  (hm : P.follows .mixedOrders = true) (hB : Region.lexTailB .any l.toArray n = true) (hL : lookB l.toArray n = true) (hD : dstB l.toArray n a.tmps.size = true)
  (hst : ∀ i v w w', i < n → Ψ i v w → w.grownBy w' none → Ψ i v w')
  (hstep : ∀ i, i < n → ∀ V w', w.drew.grownBy w' none → (∀ j, (depsOf l.toArray i).contains j = true → Ψ j (V j) w') → stepV P l.toArray Ψ i (frV l.toArray a V i) w')
  (hend : ∀ V w', w.drew.grownBy w' none → (∀ i, i < n → Ψ i (V i) w') → wpList P l.toArray Q (l.drop n) (frV l.toArray a V n) w') : (Code.region id l.toArray true).wp P Q a w := by
 simp only [Region.lexTailB, Bool.and_eq_true, decide_eq_true_eq] at hB
 obtain ⟨⟨⟨⟨hsel, hn⟩, hs⟩, hc⟩, hlex⟩ := hB
 have inv0 : HeadInv .any l.toArray n (Array.replicate l.toArray.size false) :=
  ⟨by simp, fun j oj _ hl => (by rw [getD_replicate_false] at hl; cases hl), fun t _ ht => getD_in (by simpa using ht) (getD_replicate_false _ _)⟩
 have hl0 : left (Array.replicate l.toArray.size false) n = n := by
  unfold left
  rw [List.filter_eq_self.2 fun i _ => by rw [getD_replicate_false]; rfl]
  simp
 have fr0 : FrInv l.toArray n a Ψ (Array.replicate l.toArray.size false) a w.drew :=
  ⟨rfl, rfl, fun _ _ => rfl, fun i d _ h => (by rw [getD_replicate_false] at h; cases h), fun i _ h => (by rw [getD_replicate_false] at h; cases h)⟩
 have T := any_of_inv (P := P) (Q := Q) (ops := l.toArray) (n := n) (a0 := a) (W := w.drew) (Ψ := Ψ) rfl hst hsel hn hs hc (by simpa [lexed] using hlex) hL hD hstep hend n _ a w.drew hl0 inv0 fr0 gr0
 rw [show n + (l.toArray.size - n) = l.toArray.size by omega] at T
 exact wp_region_any hm T
end
def srcOf (ops : Array Oper) (t : Nat) : Nat → Option Nat
 | 0 => none
 | i + 1 => if dstOf ops i = some t then some i else srcOf ops t i
theorem frV_at {ops : Array Oper} {a : Act} {V : Nat → Value} {t j : Nat} (ht : t < a.tmps.size) : ∀ {i : Nat}, srcOf ops t i = some j → (frV ops a V i).tmps[t]? = some (V j)
 | 0, h => by cases h
 | i + 1, h => by
  unfold srcOf at h
  show ((frV ops a V i).put (dstOf ops i) (V i)).tmps[t]? = some (V j)
  by_cases hd : dstOf ops i = some t
  ·rw [if_pos hd] at h
   obtain rfl : i = j := Option.some.inj h
   rw [hd, put_same _ _ _ (by rw [frV_size]; exact ht)]
  ·rw [if_neg hd] at h
   rw [put_other _ _ hd]
   exact frV_at ht h
theorem frV_at0 {ops : Array Oper} {a : Act} {V : Nat → Value} {t : Nat} : ∀ {i : Nat}, srcOf ops t i = none → (frV ops a V i).tmps[t]? = a.tmps[t]?
 | 0, _ => rfl
 | i + 1, h => by
  unfold srcOf at h
  show ((frV ops a V i).put (dstOf ops i) (V i)).tmps[t]? = _
  by_cases hd : dstOf ops i = some t
  ·rw [if_pos hd] at h; cases h
  ·rw [if_neg hd] at h
   rw [put_other _ _ hd]
   exact frV_at0 h
section
variable {P : Program}
def outO (P : Program) (Ψ : Nat → Value → World → Prop) (i : Nat) (w : World) : Result Next → Prop
 | .ok (.value v) w' => w.grownBy w' none ∧ Ψ i v w'
 | .ok .skip w' => w.grownBy w' none ∧ Ψ i undef w'
 | .ok (.enter f args) w' => Calls P f args w' (fun e w'' => ∃ v, e = .returned v ∧ w.grownBy w'' none ∧ Ψ i v w'')
 | _ => False
theorem outO_val {Ψ : Nat → Value → World → Prop} {i : Nat} {w w' : World} {v : Value} {r : Result Next} (hr : r = .ok (.value v) w') (hg : w.grownBy w' none) (hv : Ψ i v w') : outO P Ψ i w r := by
 rw [hr]; exact ⟨hg, hv⟩
theorem outO_call {Ψ : Nat → Value → World → Prop} {i : Nat} {w : World} {f : FuncId} {args : Array Value} {r : Result Next} (hr : r = .ok (.enter f args) w) (hc : Calls P f args w fun e w'' => ∃ v, e = .returned v ∧ w.grownBy w'' none ∧ Ψ i v w'') : outO P Ψ i w r := by
 rw [hr]; exact hc
theorem ov {Ψ : Nat → Value → World → Prop} {i : Nat} {w : World} {v : Value} {r : Result Next} (hr : r = .ok (.value v) w) (hv : Ψ i v w) : outO P Ψ i w r := outO_val hr gr0 hv
theorem gdd {w w' : World} (g : w.drew.grownBy w' none) : w.grownBy w' none := gtr (grown_drew (World.grownBy.refl _ none)) g
def stepO (P : Program) (ops : Array Oper) (a : Act) (w : World) (Ψ : Nat → Value → World → Prop) (i : Nat) (o : Oper) : Prop :=
 ∀ (V : Nat → Value) (w' : World) (A : Act), w.drew.grownBy w' none → (∀ j, (depsOf ops i).contains j = true → Ψ j (V j) w') → (∀ t j, srcOf ops t i = some j → decide (t < a.tmps.size) = true → A.tmps[t]? = some (V j)) →
  (∀ t v, srcOf ops t i = none → a.tmps[t]? = some v → A.tmps[t]? = some v) → outO P Ψ i w' ((execOp A.eval o).run P w')
def stepsO (P : Program) (ops : Array Oper) (a : Act) (w : World) (Ψ : Nat → Value → World → Prop) : Nat → List Oper → Prop
 | _, [] => True
 | i, o :: rest => stepO P ops a w Ψ i o ∧ stepsO P ops a w Ψ (i + 1) rest
theorem stepsO_get {ops : Array Oper} {a : Act} {w : World} {Ψ : Nat → Value → World → Prop} : ∀ {l : List Oper} {k i : Nat} {o : Oper}, stepsO P ops a w Ψ k l → l[i]? = some o → stepO P ops a w Ψ (k + i) o
 | [], _, _, _, _, h => by simp at h
 | x :: l, k, 0, o, hs, h => by
  obtain rfl : x = o := by simpa using h
  exact hs.1
 | x :: l, k, i + 1, o, hs, h => by
  have := stepsO_get (i := i) hs.2 (by simpa using h)
  rwa [show k + 1 + i = k + (i + 1) by omega] at this
theorem region_src {id : Nat} {Q : Exit → Act → World → Prop} {a : Act} {w : World} {l : List Oper} (n : Nat) (Ψ : Nat → Value → World → Prop)
  (hm : P.follows .mixedOrders = true) (hB : Region.lexTailB .any l.toArray n = true) (hL : lookB l.toArray n = true) (hD : dstB l.toArray n a.tmps.size = true)
  (hst : ∀ i v w w', i < n → Ψ i v w → w.grownBy w' none → Ψ i v w')
  (hstep : stepsO P l.toArray a w Ψ 0 (l.take n))
  (hend : ∀ V w', w.drew.grownBy w' none → (∀ i, i < n → Ψ i (V i) w') → wpList P l.toArray Q (l.drop n) (frV l.toArray a V n) w') : (Code.region id l.toArray true).wp P Q a w := by
 have hn : n < l.length := by
  simp only [Region.lexTailB, Bool.and_eq_true, decide_eq_true_eq] at hB
  simpa using hB.1.1.1.2
 refine region_inv n Ψ hm hB hL hD hst (fun i hi V w' g hV => ?_) hend
 have ho : (l.take n)[i]? = some l[i] := by rw [List.getElem?_take, if_pos hi, List.getElem?_eq_getElem (by omega)]
 have h1 := stepsO_get hstep ho
 rw [Nat.zero_add] at h1
 have h2 := h1 V w' (frV l.toArray a V i) g hV (fun t j hs ht => frV_at (of_decide_eq_true ht) hs) (fun t v hs hv => (frV_at0 hs).trans hv)
 unfold stepV
 have ho' : l.toArray[i]? = some l[i] := by rw [List.getElem?_toArray, List.getElem?_eq_getElem (by omega)]
 rw [ho']
 exact h2
end
def eqV (x : Value) : Value → World → Prop := fun v _ => v = x
def psiL (L : List (Value → World → Prop)) (i : Nat) (v : Value) (w : World) : Prop := L.getD i (fun _ _ => False) v w
def StabV (f : Value → World → Prop) : Prop := ∀ v w w', f v w → w.grownBy w' none → f v w'
theorem stab_eq (x : Value) : StabV (eqV x) := fun _ _ _ h _ => h
def StabL : List (Value → World → Prop) → Prop
 | [] => True
 | f :: l => StabV f ∧ StabL l
theorem psiL_stable : ∀ {L : List (Value → World → Prop)}, StabL L → ∀ {i : Nat} {v : Value} {w w' : World}, psiL L i v w → w.grownBy w' none → psiL L i v w'
 | [], _, _, _, _, _, h, _ => by simp [psiL] at h
 | f :: l, hs, 0, v, w, w', h, g => hs.1 v w w' h g
 | f :: l, hs, i + 1, v, w, w', h, g => by
  have := psiL_stable (i := i) hs.2 (by simpa [psiL] using h) g
  simpa [psiL] using this
theorem psiL_eq {L : List (Value → World → Prop)} {i : Nat} {v x : Value} {w : World} (h : psiL L i v w) (e : L[i]? = some (eqV x)) : v = x := by
 unfold psiL at h
 rw [List.getD_eq_getElem?_getD, e] at h
 exact h
theorem stab_nil : StabL [] := trivial
theorem stab_cons {f : Value → World → Prop} {l : List (Value → World → Prop)} (h1 : StabV f) (h2 : StabL l) : StabL (f :: l) := ⟨h1, h2⟩
theorem psiL_hst {n : Nat} {L : List (Value → World → Prop)} (h : StabL L) : ∀ i v w w', i < n → psiL L i v w → w.grownBy w' none → psiL L i v w' := fun _ _ _ _ _ h1 g => psiL_stable h h1 g
end Go.Proofs.YtcfpnojbhojagaaGreat
