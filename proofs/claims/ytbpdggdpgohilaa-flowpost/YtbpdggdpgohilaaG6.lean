/- Contracts and plain facts that the walks share. -/
import Derived.Test.YtbpdggdpgohilaaG5
namespace Go.Proofs.Ytbpdggdpgohilaa
open Go.RowKit
set_option linter.unusedVariables false
namespace Pg
/-- a term -/
inductive Ex where
  | mk (op t n : Int) (s : ByteArray) (args : List Ex)
/-- a statement -/
inductive St where
  | mk (op n : Int) (args : List Ex) (dst : List Int) (a b : List St)
def Ex.op : Ex → Int
  | .mk op _ _ _ _ => op
def Ex.t : Ex → Int
  | .mk _ t _ _ _ => t
def Ex.n : Ex → Int
  | .mk _ _ n _ _ => n
def Ex.s : Ex → ByteArray
  | .mk _ _ _ s _ => s
def Ex.args : Ex → List Ex
  | .mk _ _ _ _ l => l
def St.op : St → Int
  | .mk op _ _ _ _ _ => op
def St.n : St → Int
  | .mk _ n _ _ _ _ => n
def St.args : St → List Ex
  | .mk _ _ l _ _ _ => l
def St.dst : St → List Int
  | .mk _ _ _ d _ _ => d
def St.a : St → List St
  | .mk _ _ _ _ a _ => a
def St.b : St → List St
  | .mk _ _ _ _ _ b => b
theorem Ex.ind {P : Ex → Prop} (h : ∀ op t n s args, (∀ x, x ∈ args → P x) → P (.mk op t n s args)) : ∀ x, P x
  | .mk op t n s args => h op t n s args fun x hx => Ex.ind h x
theorem St.ind {P : St → Prop} (h : ∀ op n args dst a b, (∀ x, x ∈ a → P x) → (∀ x, x ∈ b → P x) → P (.mk op n args dst a b)) : ∀ x, P x
  | .mk op n args dst a b => h op n args dst a b (fun x hx => St.ind h x) (fun x hx => St.ind h x)
/-- an entry of types, a function, a program -/
structure Tp where
  kind : Int
  elem : Int
  n : Int
  fields : List Int
structure Fn where
  params : Int
  locals : List Int
  results : List Int
  body : List St
structure Pr where
  types : List Tp
  funcs : List Fn
end Pg
/-- a row of things of c cells, by' bytes each; its block is one of B -/
structure RowL {α : Type} (c by' : Nat) (B : Nat → Prop) (Q : Nat → Nat → α → Prop) (a : Option Addr) (cap : Nat) (l : List α) : Prop where
  nil : a = none → l = [] ∧ cap = 0
  le : l.length ≤ cap
  max : cap ≤ maxLen
  fits : l.length * by' ≤ reachBytes
  lie : l = [] ∨ ∃ b o, a = some ⟨b, o, none⟩ ∧ B b ∧ ∀ i x, l[i]? = some x → Q b (o + i * c) x
theorem RowL.mono {α : Type} {c by' : Nat} {B B' : Nat → Prop} {Q Q' : Nat → Nat → α → Prop} {a : Option Addr} {cap : Nat} {l : List α} (h : RowL c by' B Q a cap l) (hB : ∀ k, B k → B' k) (hQ : ∀ b o x, B b → x ∈ l → Q b o x → Q' b o x) : RowL c by' B' Q' a cap l :=
  ⟨h.nil, h.le, h.max, h.fits, by
    rcases h.lie with h0 | ⟨b, o, e, hb, hx⟩
    · exact .inl h0
    · exact .inr ⟨b, o, e, hB b hb, fun i x hi => hQ _ _ _ hb (List.mem_of_getElem? hi) (hx i x hi)⟩⟩
theorem RowL.at {α : Type} {c by' : Nat} {B : Nat → Prop} {Q : Nat → Nat → α → Prop} {a : Option Addr} {cap : Nat} {l : List α} (h : RowL c by' B Q a cap l) {i : Nat} (hi : i < l.length) : ∃ b o, a = some ⟨b, o, none⟩ ∧ B b ∧ Q b (o + i * c) l[i] := by
  rcases h.lie with h0 | ⟨b, o, e, hb, hx⟩
  · subst h0; simp at hi
  · exact ⟨b, o, e, hb, hx i _ (List.getElem?_eq_getElem hi)⟩
/-- numbers in a row -/
def NumQ (W : World) (b o : Nat) (z : Int) : Prop := W.cell? ⟨b, o, none⟩ = some (.int .i64 z)
abbrev NumL (B : Nat → Prop) (W : World) (a : Option Addr) (cap : Nat) (l : List Int) : Prop := RowL 1 8 B (NumQ W) a cap l
def R64 (n : Int) : Prop := -9223372036854775808 ≤ n ∧ n ≤ 9223372036854775807
/-- a term, as it lies; the blocks of what is in it are of B -/
inductive ExAt (B : Nat → Prop) (W : World) : Nat → Nat → Pg.Ex → Prop
  | mk {b o : Nat} {op t n : Int} {s : ByteArray} {args : List Pg.Ex} {a : Option Addr} {c b' o' : Nat}
    (c0 : W.cell? ⟨b, o, none⟩ = some (.int .i64 op)) (c1 : W.cell? ⟨b, o + 1, none⟩ = some (.int .i64 t)) (c2 : W.cell? ⟨b, o + 2, none⟩ = some (.int .i64 n)) (c3 : W.cell? ⟨b, o + 3, none⟩ = some (.string s)) (c4 : W.cell? ⟨b, o + 4, none⟩ = some (.slice a args.length c))
    (rg : R64 n) (sz : s.size ≤ reachBytes) (nil : a = none → args = [] ∧ c = 0) (le : args.length ≤ c) (max : c ≤ maxLen) (fits : args.length * 64 ≤ reachBytes) (pl : args ≠ [] → a = some ⟨b', o', none⟩ ∧ B b')
    (all : ∀ i x, args[i]? = some x → ExAt B W b' (o' + i * 5) x) : ExAt B W b o (.mk op t n s args)
abbrev ExL (B : Nat → Prop) (W : World) (a : Option Addr) (cap : Nat) (l : List Pg.Ex) : Prop := RowL 5 64 B (ExAt B W) a cap l
/-- what lies at a term -/
structure ExC (B : Nat → Prop) (W : World) (b o : Nat) (x : Pg.Ex) (a : Option Addr) (c : Nat) : Prop where
  c0 : W.cell? ⟨b, o, none⟩ = some (.int .i64 x.op)
  c1 : W.cell? ⟨b, o + 1, none⟩ = some (.int .i64 x.t)
  c2 : W.cell? ⟨b, o + 2, none⟩ = some (.int .i64 x.n)
  c3 : W.cell? ⟨b, o + 3, none⟩ = some (.string x.s)
  c4 : W.cell? ⟨b, o + 4, none⟩ = some (.slice a x.args.length c)
  rg : R64 x.n
  sz : x.s.size ≤ reachBytes
  args : ExL B W a c x.args
theorem ExAt.row {B : Nat → Prop} {W : World} {b o : Nat} {x : Pg.Ex} (h : ExAt B W b o x) : ∃ a c, ExC B W b o x a c := by
  cases h with
  | mk c0 c1 c2 c3 c4 rg sz nil le max fits pl all =>
    refine ⟨_, _, c0, c1, c2, c3, c4, rg, sz, nil, le, max, fits, ?_⟩
    rename_i args _ _ _ _
    by_cases h0 : args = []
    · exact .inl h0
    · exact .inr ⟨_, _, (pl h0).1, (pl h0).2, all⟩
theorem ExC.at {B : Nat → Prop} {W : World} {b o : Nat} {x : Pg.Ex} {a : Option Addr} {c : Nat} (h : ExC B W b o x a c) : ExAt B W b o x := by
  obtain ⟨op, t, n, s, args⟩ := x
  obtain ⟨c0, c1, c2, c3, c4, rg, sz, h⟩ := h
  rcases h.lie with h0 | ⟨b', o', e, hb, hx⟩
  · exact .mk (b' := 0) (o' := 0) c0 c1 c2 c3 c4 rg sz h.nil h.le h.max h.fits (fun hn => absurd h0 hn) (fun i x hi => by rw [show args = [] from h0] at hi; simp at hi)
  · exact .mk c0 c1 c2 c3 c4 rg sz h.nil h.le h.max h.fits (fun _ => ⟨e, hb⟩) hx
theorem ExAt.ch {B B' : Nat → Prop} {W W' : World} {l : List Nat} (hg : Ch W W' l) (hl : ∀ k, B k → k ∉ l) (hB : ∀ k, B k → B' k) : ∀ {b o : Nat} {x : Pg.Ex}, ExAt B W b o x → b ∉ l → ExAt B' W' b o x
  | _, _, _, .mk c0 c1 c2 c3 c4 rg sz nil le max fits pl all, hb =>
    .mk (hg.cell c0 hb) (hg.cell c1 hb) (hg.cell c2 hb) (hg.cell c3 hb) (hg.cell c4 hb) rg sz nil le max fits (fun h => ⟨(pl h).1, hB _ (pl h).2⟩) (fun i x hi => ExAt.ch hg hl hB (all i x hi) (hl _ (pl (by intro h; rw [h] at hi; simp at hi)).2))
theorem ExL.ch {B B' : Nat → Prop} {W W' : World} {l : List Nat} {a : Option Addr} {cap : Nat} {xs : List Pg.Ex} (h : ExL B W a cap xs) (hg : Ch W W' l) (hl : ∀ k, B k → k ∉ l) (hB : ∀ k, B k → B' k) : ExL B' W' a cap xs := h.mono hB (fun b o x hb _ hx => ExAt.ch hg hl hB hx (hl b hb))
theorem NumL.ch {B B' : Nat → Prop} {W W' : World} {l : List Nat} {a : Option Addr} {cap : Nat} {xs : List Int} (h : NumL B W a cap xs) (hg : Ch W W' l) (hl : ∀ k, B k → k ∉ l) (hB : ∀ k, B k → B' k) : NumL B' W' a cap xs := h.mono hB (fun b o x hb _ hx => hg.cell hx (hl b hb))
/-- a statement, as it lies -/
inductive StAt (B : Nat → Prop) (W : World) : Nat → Nat → Pg.St → Prop
  | mk {b o : Nat} {op n : Int} {args : List Pg.Ex} {dst : List Int} {xa xb : List Pg.St} {a1 a2 a3 a4 : Option Addr} {k1 k2 k3 k4 b3 o3 b4 o4 : Nat}
    (c0 : W.cell? ⟨b, o, none⟩ = some (.int .i64 op)) (c1 : W.cell? ⟨b, o + 1, none⟩ = some (.int .i64 n)) (c2 : W.cell? ⟨b, o + 2, none⟩ = some (.slice a1 args.length k1)) (c3 : W.cell? ⟨b, o + 3, none⟩ = some (.slice a2 dst.length k2)) (c4 : W.cell? ⟨b, o + 4, none⟩ = some (.slice a3 xa.length k3)) (c5 : W.cell? ⟨b, o + 5, none⟩ = some (.slice a4 xb.length k4))
    (rg : R64 n) (h1 : ExL B W a1 k1 args) (h2 : NumL B W a2 k2 dst)
    (n3 : a3 = none → xa = [] ∧ k3 = 0) (l3 : xa.length ≤ k3) (m3 : k3 ≤ maxLen) (f3 : xa.length * 112 ≤ reachBytes) (p3 : xa ≠ [] → a3 = some ⟨b3, o3, none⟩ ∧ B b3) (q3 : ∀ i x, xa[i]? = some x → StAt B W b3 (o3 + i * 6) x)
    (n4 : a4 = none → xb = [] ∧ k4 = 0) (l4 : xb.length ≤ k4) (m4 : k4 ≤ maxLen) (f4 : xb.length * 112 ≤ reachBytes) (p4 : xb ≠ [] → a4 = some ⟨b4, o4, none⟩ ∧ B b4) (q4 : ∀ i x, xb[i]? = some x → StAt B W b4 (o4 + i * 6) x) : StAt B W b o (.mk op n args dst xa xb)
abbrev StL (B : Nat → Prop) (W : World) (a : Option Addr) (cap : Nat) (l : List Pg.St) : Prop := RowL 6 112 B (StAt B W) a cap l
/-- what lies at a statement -/
structure StC (B : Nat → Prop) (W : World) (b o : Nat) (x : Pg.St) (a1 a2 a3 a4 : Option Addr) (k1 k2 k3 k4 : Nat) : Prop where
  c0 : W.cell? ⟨b, o, none⟩ = some (.int .i64 x.op)
  c1 : W.cell? ⟨b, o + 1, none⟩ = some (.int .i64 x.n)
  c2 : W.cell? ⟨b, o + 2, none⟩ = some (.slice a1 x.args.length k1)
  c3 : W.cell? ⟨b, o + 3, none⟩ = some (.slice a2 x.dst.length k2)
  c4 : W.cell? ⟨b, o + 4, none⟩ = some (.slice a3 x.a.length k3)
  c5 : W.cell? ⟨b, o + 5, none⟩ = some (.slice a4 x.b.length k4)
  rg : R64 x.n
  args : ExL B W a1 k1 x.args
  dst : NumL B W a2 k2 x.dst
  a : StL B W a3 k3 x.a
  b : StL B W a4 k4 x.b
theorem StAt.row {B : Nat → Prop} {W : World} {b o : Nat} {x : Pg.St} (h : StAt B W b o x) : ∃ a1 a2 a3 a4 k1 k2 k3 k4, StC B W b o x a1 a2 a3 a4 k1 k2 k3 k4 := by
  cases h with
  | mk c0 c1 c2 c3 c4 c5 rg h1 h2 n3 l3 m3 f3 p3 q3 n4 l4 m4 f4 p4 q4 =>
    refine ⟨_, _, _, _, _, _, _, _, c0, c1, c2, c3, c4, c5, rg, h1, h2, ⟨n3, l3, m3, f3, ?_⟩, ⟨n4, l4, m4, f4, ?_⟩⟩
    · rename_i xa xb _ _ _ _ _ _ _ _ _ _ _ _
      by_cases h0 : xa = []
      · exact .inl h0
      · exact .inr ⟨_, _, (p3 h0).1, (p3 h0).2, q3⟩
    · rename_i xa xb _ _ _ _ _ _ _ _ _ _ _ _
      by_cases h0 : xb = []
      · exact .inl h0
      · exact .inr ⟨_, _, (p4 h0).1, (p4 h0).2, q4⟩
theorem StC.at {B : Nat → Prop} {W : World} {b o : Nat} {x : Pg.St} {a1 a2 a3 a4 : Option Addr} {k1 k2 k3 k4 : Nat} (h : StC B W b o x a1 a2 a3 a4 k1 k2 k3 k4) : StAt B W b o x := by
  obtain ⟨op, n, args, dst, xa, xb⟩ := x
  obtain ⟨c0, c1, c2, c3, c4, c5, rg, h1, h2, h3, h4⟩ := h
  have g : ∀ {a : Option Addr} {k : Nat} {l : List Pg.St}, StL B W a k l → ∃ b' o', (l ≠ [] → a = some ⟨b', o', none⟩ ∧ B b') ∧ ∀ i x, l[i]? = some x → StAt B W b' (o' + i * 6) x := by
    intro a k l h
    rcases h.lie with h0 | ⟨b', o', e, hb, hx⟩
    · exact ⟨0, 0, fun hn => absurd h0 hn, fun i x hi => by rw [h0] at hi; simp at hi⟩
    · exact ⟨b', o', fun _ => ⟨e, hb⟩, hx⟩
  obtain ⟨b3, o3, p3, q3⟩ := g h3
  obtain ⟨b4, o4, p4, q4⟩ := g h4
  exact .mk c0 c1 c2 c3 c4 c5 rg h1 h2 h3.nil h3.le h3.max h3.fits p3 q3 h4.nil h4.le h4.max h4.fits p4 q4
theorem StAt.ch {B B' : Nat → Prop} {W W' : World} {l : List Nat} (hg : Ch W W' l) (hl : ∀ k, B k → k ∉ l) (hB : ∀ k, B k → B' k) : ∀ {b o : Nat} {x : Pg.St}, StAt B W b o x → b ∉ l → StAt B' W' b o x
  | _, _, _, .mk c0 c1 c2 c3 c4 c5 rg h1 h2 n3 l3 m3 f3 p3 q3 n4 l4 m4 f4 p4 q4, hb =>
    .mk (hg.cell c0 hb) (hg.cell c1 hb) (hg.cell c2 hb) (hg.cell c3 hb) (hg.cell c4 hb) (hg.cell c5 hb) rg (ExL.ch h1 hg hl hB) (NumL.ch h2 hg hl hB)
      n3 l3 m3 f3 (fun h => ⟨(p3 h).1, hB _ (p3 h).2⟩) (fun i x hi => StAt.ch hg hl hB (q3 i x hi) (hl _ (p3 (by intro h; rw [h] at hi; simp at hi)).2))
      n4 l4 m4 f4 (fun h => ⟨(p4 h).1, hB _ (p4 h).2⟩) (fun i x hi => StAt.ch hg hl hB (q4 i x hi) (hl _ (p4 (by intro h; rw [h] at hi; simp at hi)).2))
theorem StL.ch {B B' : Nat → Prop} {W W' : World} {l : List Nat} {a : Option Addr} {cap : Nat} {xs : List Pg.St} (h : StL B W a cap xs) (hg : Ch W W' l) (hl : ∀ k, B k → k ∉ l) (hB : ∀ k, B k → B' k) : StL B' W' a cap xs := h.mono hB (fun b o x hb _ hx => StAt.ch hg hl hB hx (hl b hb))
/-- an entry of types, as it lies -/
structure TpC (B : Nat → Prop) (W : World) (b o : Nat) (x : Pg.Tp) (a : Option Addr) (k : Nat) : Prop where
  c0 : W.cell? ⟨b, o, none⟩ = some (.int .i64 x.kind)
  c1 : W.cell? ⟨b, o + 1, none⟩ = some (.int .i64 x.elem)
  c2 : W.cell? ⟨b, o + 2, none⟩ = some (.int .i64 x.n)
  c3 : W.cell? ⟨b, o + 3, none⟩ = some (.slice a x.fields.length k)
  f : NumL B W a k x.fields
def TpAt (B : Nat → Prop) (W : World) (b o : Nat) (x : Pg.Tp) : Prop := ∃ a k, TpC B W b o x a k
abbrev TpL (B : Nat → Prop) (W : World) (a : Option Addr) (cap : Nat) (l : List Pg.Tp) : Prop := RowL 4 48 B (TpAt B W) a cap l
theorem TpAt.ch {B B' : Nat → Prop} {W W' : World} {l : List Nat} (hg : Ch W W' l) (hl : ∀ k, B k → k ∉ l) (hB : ∀ k, B k → B' k) {b o : Nat} {x : Pg.Tp} (h : TpAt B W b o x) (hb : b ∉ l) : TpAt B' W' b o x := by
  obtain ⟨a, k, h⟩ := h
  exact ⟨a, k, hg.cell h.c0 hb, hg.cell h.c1 hb, hg.cell h.c2 hb, hg.cell h.c3 hb, NumL.ch h.f hg hl hB⟩
theorem TpL.ch {B B' : Nat → Prop} {W W' : World} {l : List Nat} {a : Option Addr} {cap : Nat} {xs : List Pg.Tp} (h : TpL B W a cap xs) (hg : Ch W W' l) (hl : ∀ k, B k → k ∉ l) (hB : ∀ k, B k → B' k) : TpL B' W' a cap xs := h.mono hB (fun b o x hb _ hx => TpAt.ch hg hl hB hx (hl b hb))
/-- a function, as it lies -/
structure FnC (B : Nat → Prop) (W : World) (b o : Nat) (x : Pg.Fn) (a1 a2 a3 : Option Addr) (k1 k2 k3 : Nat) : Prop where
  c0 : W.cell? ⟨b, o, none⟩ = some (.int .i64 x.params)
  c1 : W.cell? ⟨b, o + 1, none⟩ = some (.slice a1 x.locals.length k1)
  c2 : W.cell? ⟨b, o + 2, none⟩ = some (.slice a2 x.results.length k2)
  c3 : W.cell? ⟨b, o + 3, none⟩ = some (.slice a3 x.body.length k3)
  l : NumL B W a1 k1 x.locals
  r : NumL B W a2 k2 x.results
  b : StL B W a3 k3 x.body
def FnAt (B : Nat → Prop) (W : World) (b o : Nat) (x : Pg.Fn) : Prop := ∃ a1 a2 a3 k1 k2 k3, FnC B W b o x a1 a2 a3 k1 k2 k3
abbrev FnL (B : Nat → Prop) (W : World) (a : Option Addr) (cap : Nat) (l : List Pg.Fn) : Prop := RowL 4 80 B (FnAt B W) a cap l
theorem FnAt.ch {B B' : Nat → Prop} {W W' : World} {l : List Nat} (hg : Ch W W' l) (hl : ∀ k, B k → k ∉ l) (hB : ∀ k, B k → B' k) {b o : Nat} {x : Pg.Fn} (h : FnAt B W b o x) (hb : b ∉ l) : FnAt B' W' b o x := by
  obtain ⟨a1, a2, a3, k1, k2, k3, h⟩ := h
  exact ⟨a1, a2, a3, k1, k2, k3, hg.cell h.c0 hb, hg.cell h.c1 hb, hg.cell h.c2 hb, hg.cell h.c3 hb, NumL.ch h.l hg hl hB, NumL.ch h.r hg hl hB, StL.ch h.b hg hl hB⟩
theorem FnL.ch {B B' : Nat → Prop} {W W' : World} {l : List Nat} {a : Option Addr} {cap : Nat} {xs : List Pg.Fn} (h : FnL B W a cap xs) (hg : Ch W W' l) (hl : ∀ k, B k → k ∉ l) (hB : ∀ k, B k → B' k) : FnL B' W' a cap xs := h.mono hB (fun b o x hb _ hx => FnAt.ch hg hl hB hx (hl b hb))
/-- a program, as it is handed over: its two rows -/
structure PrC (B : Nat → Prop) (W : World) (x : Pg.Pr) (a1 a2 : Option Addr) (k1 k2 : Nat) : Prop where
  t : TpL B W a1 k1 x.types
  f : FnL B W a2 k2 x.funcs
theorem PrC.ch {B B' : Nat → Prop} {W W' : World} {l : List Nat} (hg : Ch W W' l) (hl : ∀ k, B k → k ∉ l) (hB : ∀ k, B k → B' k) {x : Pg.Pr} {a1 a2 : Option Addr} {k1 k2 : Nat} (h : PrC B W x a1 a2 k1 k2) : PrC B' W' x a1 a2 k1 k2 := ⟨TpL.ch h.t hg hl hB, FnL.ch h.f hg hl hB⟩
def PrAt (B : Nat → Prop) (W : World) (b o : Nat) (x : Pg.Pr) : Prop := ∃ a1 a2 k1 k2, W.cell? ⟨b, o, none⟩ = some (.slice a1 x.types.length k1) ∧ W.cell? ⟨b, o + 1, none⟩ = some (.slice a2 x.funcs.length k2) ∧ PrC B W x a1 a2 k1 k2
namespace Sa
/-- a value, a block, a function, a program -/
structure Vl where
  op : Int
  kind : Int
  args : List Int
  n : Int
  m : Int
structure Bl where
  kind : Int
  n : Int
  args : List Int
  preds : List Int
  succs : List Int
  list : List Int
structure Cd where
  params : List Int
  results : List Int
  values : List Vl
  blocks : List Bl
structure Un where
  codes : List Cd
  data : List Int
end Sa
/-- bytes in a row -/
def BytQ (W : World) (b o : Nat) (z : Int) : Prop := W.cell? ⟨b, o, none⟩ = some (.int .u8 z)
abbrev BytL (B : Nat → Prop) (W : World) (a : Option Addr) (cap : Nat) (l : List Int) : Prop := RowL 1 1 B (BytQ W) a cap l
theorem BytL.ch {B B' : Nat → Prop} {W W' : World} {l : List Nat} {a : Option Addr} {cap : Nat} {xs : List Int} (h : BytL B W a cap xs) (hg : Ch W W' l) (hl : ∀ k, B k → k ∉ l) (hB : ∀ k, B k → B' k) : BytL B' W' a cap xs := h.mono hB (fun b o x hb _ hx => hg.cell hx (hl b hb))
/-- a value, as it lies -/
structure VlC (B : Nat → Prop) (W : World) (b o : Nat) (x : Sa.Vl) (a : Option Addr) (k : Nat) : Prop where
  c0 : W.cell? ⟨b, o, none⟩ = some (.int .i64 x.op)
  c1 : W.cell? ⟨b, o + 1, none⟩ = some (.int .i64 x.kind)
  c2 : W.cell? ⟨b, o + 2, none⟩ = some (.slice a x.args.length k)
  c3 : W.cell? ⟨b, o + 3, none⟩ = some (.int .i64 x.n)
  c4 : W.cell? ⟨b, o + 4, none⟩ = some (.int .i64 x.m)
  args : NumL B W a k x.args
  rn : R64 x.n
  rm : R64 x.m
def VlAt (B : Nat → Prop) (W : World) (b o : Nat) (x : Sa.Vl) : Prop := ∃ a k, VlC B W b o x a k
abbrev VlL (B : Nat → Prop) (W : World) (a : Option Addr) (cap : Nat) (l : List Sa.Vl) : Prop := RowL 5 56 B (VlAt B W) a cap l
theorem VlC.ch {B B' : Nat → Prop} {W W' : World} {l : List Nat} {b o : Nat} {x : Sa.Vl} {a : Option Addr} {k : Nat} (h : VlC B W b o x a k) (hg : Ch W W' l) (hl : ∀ k, B k → k ∉ l) (hB : ∀ k, B k → B' k) (hb : b ∉ l) : VlC B' W' b o x a k :=
  ⟨hg.cell h.c0 hb, hg.cell h.c1 hb, hg.cell h.c2 hb, hg.cell h.c3 hb, hg.cell h.c4 hb, NumL.ch h.args hg hl hB, h.rn, h.rm⟩
theorem VlL.ch {B B' : Nat → Prop} {W W' : World} {l : List Nat} {a : Option Addr} {cap : Nat} {xs : List Sa.Vl} (h : VlL B W a cap xs) (hg : Ch W W' l) (hl : ∀ k, B k → k ∉ l) (hB : ∀ k, B k → B' k) : VlL B' W' a cap xs := h.mono hB (fun b o x hb _ hx => by
  obtain ⟨a, k, h⟩ := hx
  exact ⟨a, k, h.ch hg hl hB (hl b hb)⟩)
/-- a block, as it lies -/
structure BlC (B : Nat → Prop) (W : World) (b o : Nat) (x : Sa.Bl) (a1 a2 a3 a4 : Option Addr) (k1 k2 k3 k4 : Nat) : Prop where
  c0 : W.cell? ⟨b, o, none⟩ = some (.int .i64 x.kind)
  c1 : W.cell? ⟨b, o + 1, none⟩ = some (.int .i64 x.n)
  c2 : W.cell? ⟨b, o + 2, none⟩ = some (.slice a1 x.args.length k1)
  c3 : W.cell? ⟨b, o + 3, none⟩ = some (.slice a2 x.preds.length k2)
  c4 : W.cell? ⟨b, o + 4, none⟩ = some (.slice a3 x.succs.length k3)
  c5 : W.cell? ⟨b, o + 5, none⟩ = some (.slice a4 x.list.length k4)
  args : NumL B W a1 k1 x.args
  preds : NumL B W a2 k2 x.preds
  succs : NumL B W a3 k3 x.succs
  list : NumL B W a4 k4 x.list
  rn : R64 x.n
def BlAt (B : Nat → Prop) (W : World) (b o : Nat) (x : Sa.Bl) : Prop := ∃ a1 a2 a3 a4 k1 k2 k3 k4, BlC B W b o x a1 a2 a3 a4 k1 k2 k3 k4
abbrev BlL (B : Nat → Prop) (W : World) (a : Option Addr) (cap : Nat) (l : List Sa.Bl) : Prop := RowL 6 112 B (BlAt B W) a cap l
theorem BlC.ch {B B' : Nat → Prop} {W W' : World} {l : List Nat} {b o : Nat} {x : Sa.Bl} {a1 a2 a3 a4 : Option Addr} {k1 k2 k3 k4 : Nat} (h : BlC B W b o x a1 a2 a3 a4 k1 k2 k3 k4) (hg : Ch W W' l) (hl : ∀ k, B k → k ∉ l) (hB : ∀ k, B k → B' k) (hb : b ∉ l) : BlC B' W' b o x a1 a2 a3 a4 k1 k2 k3 k4 :=
  ⟨hg.cell h.c0 hb, hg.cell h.c1 hb, hg.cell h.c2 hb, hg.cell h.c3 hb, hg.cell h.c4 hb, hg.cell h.c5 hb, NumL.ch h.args hg hl hB, NumL.ch h.preds hg hl hB, NumL.ch h.succs hg hl hB, NumL.ch h.list hg hl hB, h.rn⟩
theorem BlL.ch {B B' : Nat → Prop} {W W' : World} {l : List Nat} {a : Option Addr} {cap : Nat} {xs : List Sa.Bl} (h : BlL B W a cap xs) (hg : Ch W W' l) (hl : ∀ k, B k → k ∉ l) (hB : ∀ k, B k → B' k) : BlL B' W' a cap xs := h.mono hB (fun b o x hb _ hx => by
  obtain ⟨a1, a2, a3, a4, k1, k2, k3, k4, h⟩ := hx
  exact ⟨a1, a2, a3, a4, k1, k2, k3, k4, h.ch hg hl hB (hl b hb)⟩)
/-- what a function holds -/
structure CdR (B : Nat → Prop) (W : World) (x : Sa.Cd) (a1 a2 a3 a4 : Option Addr) (k1 k2 k3 k4 : Nat) : Prop where
  params : NumL B W a1 k1 x.params
  results : NumL B W a2 k2 x.results
  values : VlL B W a3 k3 x.values
  blocks : BlL B W a4 k4 x.blocks
theorem CdR.ch {B B' : Nat → Prop} {W W' : World} {l : List Nat} {x : Sa.Cd} {a1 a2 a3 a4 : Option Addr} {k1 k2 k3 k4 : Nat} (h : CdR B W x a1 a2 a3 a4 k1 k2 k3 k4) (hg : Ch W W' l) (hl : ∀ k, B k → k ∉ l) (hB : ∀ k, B k → B' k) : CdR B' W' x a1 a2 a3 a4 k1 k2 k3 k4 :=
  ⟨NumL.ch h.params hg hl hB, NumL.ch h.results hg hl hB, VlL.ch h.values hg hl hB, BlL.ch h.blocks hg hl hB⟩
/-- .. as it is handed over -/
abbrev cdV (x : Sa.Cd) (a1 a2 a3 a4 : Option Addr) (k1 k2 k3 k4 : Nat) : Array Value := #[.slice a1 x.params.length k1, .slice a2 x.results.length k2, .slice a3 x.values.length k3, .slice a4 x.blocks.length k4]
structure CdC (B : Nat → Prop) (W : World) (b o : Nat) (x : Sa.Cd) (a1 a2 a3 a4 : Option Addr) (k1 k2 k3 k4 : Nat) : Prop where
  c0 : W.cell? ⟨b, o, none⟩ = some (.slice a1 x.params.length k1)
  c1 : W.cell? ⟨b, o + 1, none⟩ = some (.slice a2 x.results.length k2)
  c2 : W.cell? ⟨b, o + 2, none⟩ = some (.slice a3 x.values.length k3)
  c3 : W.cell? ⟨b, o + 3, none⟩ = some (.slice a4 x.blocks.length k4)
  r : CdR B W x a1 a2 a3 a4 k1 k2 k3 k4
theorem CdC.ch {B B' : Nat → Prop} {W W' : World} {l : List Nat} {b o : Nat} {x : Sa.Cd} {a1 a2 a3 a4 : Option Addr} {k1 k2 k3 k4 : Nat} (h : CdC B W b o x a1 a2 a3 a4 k1 k2 k3 k4) (hg : Ch W W' l) (hl : ∀ k, B k → k ∉ l) (hB : ∀ k, B k → B' k) (hb : b ∉ l) : CdC B' W' b o x a1 a2 a3 a4 k1 k2 k3 k4 :=
  ⟨hg.cell h.c0 hb, hg.cell h.c1 hb, hg.cell h.c2 hb, hg.cell h.c3 hb, h.r.ch hg hl hB⟩
def CdAt (B : Nat → Prop) (W : World) (b o : Nat) (x : Sa.Cd) : Prop := ∃ a1 a2 a3 a4 k1 k2 k3 k4, CdC B W b o x a1 a2 a3 a4 k1 k2 k3 k4
abbrev CdL (B : Nat → Prop) (W : World) (a : Option Addr) (cap : Nat) (l : List Sa.Cd) : Prop := RowL 4 96 B (CdAt B W) a cap l
theorem CdL.ch {B B' : Nat → Prop} {W W' : World} {l : List Nat} {a : Option Addr} {cap : Nat} {xs : List Sa.Cd} (h : CdL B W a cap xs) (hg : Ch W W' l) (hl : ∀ k, B k → k ∉ l) (hB : ∀ k, B k → B' k) : CdL B' W' a cap xs := h.mono hB (fun b o x hb _ hx => by
  obtain ⟨a1, a2, a3, a4, k1, k2, k3, k4, h⟩ := hx
  exact ⟨a1, a2, a3, a4, k1, k2, k3, k4, h.ch hg hl hB (hl b hb)⟩)
/-- what a program holds -/
structure UnC (B : Nat → Prop) (W : World) (x : Sa.Un) (a1 a2 : Option Addr) (k1 k2 : Nat) : Prop where
  c : CdL B W a1 k1 x.codes
  d : BytL B W a2 k2 x.data
theorem UnC.ch {B B' : Nat → Prop} {W W' : World} {l : List Nat} {x : Sa.Un} {a1 a2 : Option Addr} {k1 k2 : Nat} (h : UnC B W x a1 a2 k1 k2) (hg : Ch W W' l) (hl : ∀ k, B k → k ∉ l) (hB : ∀ k, B k → B' k) : UnC B' W' x a1 a2 k1 k2 := ⟨CdL.ch h.c hg hl hB, BytL.ch h.d hg hl hB⟩
/-- nothing but new blocks -/
theorem NumL.grow1 {B : Nat → Prop} {W W' : World} {a : Option Addr} {k : Nat} {l : List Int} (h : NumL B W a k l) (g : W.grownBy W' none) : NumL B W' a k l := NumL.ch (l := []) h (Ch.of g) (by simp) (fun _ h => h)
theorem VlL.grow {B : Nat → Prop} {W W' : World} {a : Option Addr} {k : Nat} {l : List Sa.Vl} (h : VlL B W a k l) (g : W.grownBy W' none) : VlL B W' a k l := VlL.ch (l := []) h (Ch.of g) (by simp) (fun _ h => h)
theorem BlL.grow {B : Nat → Prop} {W W' : World} {a : Option Addr} {k : Nat} {l : List Sa.Bl} (h : BlL B W a k l) (g : W.grownBy W' none) : BlL B W' a k l := BlL.ch (l := []) h (Ch.of g) (by simp) (fun _ h => h)
theorem CdR.grow {B : Nat → Prop} {W W' : World} {x : Sa.Cd} {a1 a2 a3 a4 : Option Addr} {k1 k2 k3 k4 : Nat} (h : CdR B W x a1 a2 a3 a4 k1 k2 k3 k4) (g : W.grownBy W' none) : CdR B W' x a1 a2 a3 a4 k1 k2 k3 k4 := h.ch (l := []) (Ch.of g) (by simp) (fun _ h => h)
theorem CdL.grow {B : Nat → Prop} {W W' : World} {a : Option Addr} {k : Nat} {l : List Sa.Cd} (h : CdL B W a k l) (g : W.grownBy W' none) : CdL B W' a k l := CdL.ch (l := []) h (Ch.of g) (by simp) (fun _ h => h)
theorem UnC.grow {B : Nat → Prop} {W W' : World} {x : Sa.Un} {a1 a2 : Option Addr} {k1 k2 : Nat} (h : UnC B W x a1 a2 k1 k2) (g : W.grownBy W' none) : UnC B W' x a1 a2 k1 k2 := h.ch (l := []) (Ch.of g) (by simp) (fun _ h => h)
namespace Sa
/-- what is asked first is told first -/
def must (b : Bool) (e : Int) : Except Int Unit := if b then .ok () else .error e
def vl0 : Vl := ⟨0, 0, [], 0, 0⟩
def bl0 : Bl := ⟨0, 0, [], [], [], []⟩
def cd0 : Cd := ⟨[], [], [], []⟩
def Cd.v (c : Cd) (n : Int) : Vl := c.values.getD n.toNat vl0
def Cd.b (c : Cd) (n : Int) : Bl := c.blocks.getD n.toNat bl0
/-- is n a number of so many? -/
def isNum (len : Nat) (n : Int) : Bool := decide (0 ≤ n) && decide (n < (len : Int))
theorem isNum_iff {len : Nat} {n : Int} : isNum len n = true ↔ 0 ≤ n ∧ n < (len : Int) := by unfold isNum; simp
/- ways -/
def isBlk (bs : List Bl) (n : Int) : Bool := isNum bs.length n && (bs.getD n.toNat bl0).kind != 0
def areBlks (bs : List Bl) (l : List Int) : Bool := l.all (isBlk bs)
def wayB (bs : List Bl) (b : Bl) : Bool := (decide (0 ≤ b.kind) && decide (b.kind ≤ 4)) && (b.kind != 0 || b.preds.length + b.succs.length == 0) && (areBlks bs b.preds && areBlks bs b.succs)
def waysB (bs : List Bl) : Bool := (decide (0 < bs.length) && decide (bs.length ≤ 4096)) && bs.all (wayB bs)
/- lists -/
def isVal (c : Cd) (n : Int) : Bool := isNum c.values.length n && (c.v n).op != 0
def areVals (c : Cd) (l : List Int) : Bool := l.all (isVal c)
/-- where values stand -/
structure Ls where
  home : Nat → Int
  spot : Nat → Int
def Ls.put (s : Ls) (n b i : Nat) : Ls := ⟨setF s.home n b, setF s.spot n i⟩
/-- one block's list: is it right, and what is known behind it -/
def lsIn (c : Cd) (b : Nat) : List Int → Nat → Bool → Ls → Bool × Ls
  | [], _, _, s => (true, s)
  | n :: l, i, ph, s =>
    if (isVal c n && s.home n.toNat == -1) && (ph || (c.v n).op != 6) then lsIn c b l (i + 1) ((c.v n).op == 6) (s.put n.toNat b i)
    else (false, s)
def lsAll (c : Cd) : List Bl → Nat → Ls → Bool × Ls
  | [], _, s => (true, s)
  | x :: bs, b, s => if (lsIn c b x.list 0 (b != 0) s).1 then lsAll c bs (b + 1) (lsIn c b x.list 0 (b != 0) s).2 else (false, s)
def ls0 : Ls := ⟨fun _ => -1, fun _ => 0⟩
def lists (c : Cd) : Bool × Ls := lsAll c c.blocks 0 ls0
/- values, ends -/
def hasArgs (u : Un) (c : Cd) (s : Ls) (n : Nat) (v : Vl) : Bool :=
  let k := v.args.length
  if v.op = 1 ∨ v.op = 2 ∨ v.op = 9 ∨ v.op = 16 then k == 0
  else if v.op = 3 ∨ v.op = 5 ∨ v.op = 12 ∨ v.op = 15 then k == 1
  else if v.op = 4 ∨ v.op = 8 ∨ v.op = 11 ∨ v.op = 13 then k == 2
  else if v.op = 7 ∨ v.op = 10 then k == 3
  else if v.op = 17 then k == 1 || k == 2
  else if v.op = 6 then k == (c.b (s.home n)).preds.length
  else if v.op = 14 then isNum u.codes.length v.n && k == (u.codes.getD v.n.toNat cd0).params.length + 1
  else false
def namesN (op : Int) : Bool := !(op == 5 || op == 6 || op == 7 || op == 9 || op == 11 || op == 12 || op == 13)
def valB (u : Un) (c : Cd) (s : Ls) (n : Nat) (v : Vl) : Bool :=
  if v.op = 0 then v.kind == 0 && v.n == 0 && v.m == 0 && v.args.length == 0
  else (s.home n != -1 && areVals c v.args && hasArgs u c s n v) && (v.n == 0 || namesN v.op) && (v.m == 0 || v.op == 17)
def valsB (u : Un) (c : Cd) (s : Ls) : List Vl → Nat → Bool
  | [], _ => true
  | v :: l, n => valB u c s n v && valsB u c s l (n + 1)
def endArgs (c : Cd) (k : Int) : Nat := if k = 2 ∨ k = 4 then 1 else if k = 3 then c.results.length + 1 else 0
def endB (c : Cd) (b : Bl) : Bool := (b.kind != 0 || b.list.length == 0) && (b.args.length == endArgs c b.kind && areVals c b.args) && (if b.kind = 4 then decide (1 ≤ b.n) && decide (b.n ≤ 2147483647) else b.n == 0)
/- flow -/
def exits (k : Int) : Nat := if k = 1 then 1 else if k = 2 then 2 else 0
/-- of a block those that have it among Succs, rising -/
def comes (bs : List Bl) (s : Nat) : List Int := (List.range bs.length).flatMap fun n => ((bs.getD n bl0).succs.filter (· == (s : Int))).map fun _ => (n : Int)
def isSame (rising l : List Int) : Bool := rising.length == l.length && rising == l.mergeSort (fun a b => decide (a ≤ b))
/-- a walk: where blocks stand in it, what it has come to, from where -/
structure Wk where
  rank : Nat → Int
  order : List Int
  parent : List Int
def Wk.on (w : Wk) (b p : Int) : Wk := ⟨setF w.rank b.toNat w.order.length, w.order ++ [b], w.parent ++ [p]⟩
mutual
def visit (bs : List Bl) : Nat → Int → Int → Wk → Wk
  | 0, _, _, w => w
  | f + 1, b, p, w => visits bs f w.order.length (bs.getD b.toNat bl0).succs (w.on b p)
def visits (bs : List Bl) : Nat → Nat → List Int → Wk → Wk
  | _, _, [], w => w
  | f, own, s :: l, w => visits bs f own l (if w.rank s.toNat = -1 then visit bs f s own w else w)
end
def walk (bs : List Bl) : Wk := visit bs bs.length 0 (-1) ⟨fun _ => -1, [], []⟩
def flowB (bs : List Bl) : Bool :=
  (bs.getD 0 bl0).kind != 0 && bs.all (fun b => b.succs.length == exits b.kind) && (List.range bs.length).all (fun n => isSame (comes bs n) (bs.getD n bl0).preds) && (bs.getD 0 bl0).preds.length == 0 && (List.range bs.length).all (fun n => (bs.getD n bl0).kind == 0 || (walk bs).rank n != -1)
/- dominators -/
/-- the walk's tree as far as it is known -/
structure Fo where
  up : Nat → Int
  low : Nat → Int
/-- the least one above n -/
def least : Nat → Int → Int → Fo → Int × Fo
  | 0, n, _, s => (n, s)
  | f + 1, n, known, s =>
    if n ≤ known then (n, s)
    else if s.up n.toNat > known then
      let r := least f (s.up n.toNat) known s
      let low := min (s.low n.toNat) r.1
      (low, ⟨setF r.2.up n.toNat (r.2.up (s.up n.toNat).toNat), setF r.2.low n.toNat low⟩)
    else (s.low n.toNat, s)
def semiIn (w : Wk) (i : Nat) : List Int → Int → Fo → Int × Fo
  | [], m, s => (m, s)
  | p :: l, m, s => semiIn w i l (min m (least (i + w.order.length + 1) (w.rank p.toNat) i s).1) (least (i + w.order.length + 1) (w.rank p.toNat) i s).2
/-- semidominators of the numbers from i down to 1 -/
def semiAll (bs : List Bl) (w : Wk) : Nat → (Nat → Int) → Fo → (Nat → Int)
  | 0, m, _ => m
  | i + 1, m, s =>
    let r := semiIn w (i + 1) (bs.getD (w.order.getD (i + 1) 0).toNat bl0).preds (i + 1 : Nat) s
    semiAll bs w i (setF m (i + 1) r.1) ⟨r.2.up, setF r.2.low (i + 1) r.1⟩
def semis (bs : List Bl) (w : Wk) : Nat → Int := semiAll bs w (w.order.length - 1) (fun _ => 0) ⟨fun i => w.parent.getD i 0, fun _ => 0⟩
def climb (above : Nat → Int) (semi : Int) : Nat → Int → Int
  | 0, a => a
  | f + 1, a => if a > semi then climb above semi f (above a.toNat) else a
def aboveAll (semi : Nat → Int) : Nat → Nat → (Nat → Int) → (Nat → Int)
  | 0, _, a => a
  | k + 1, i, a => aboveAll semi k (i + 1) (setF a i (climb a (semi i) (i + 1) (a i)))
/-- the tree of dominators -/
structure Tr where
  order : List Int
  above : Nat → Int
  first : Nat → Int
  size : Nat → Int
def tops (w : Wk) (a : Nat → Int) : Nat → Nat → (Nat → Int) → (Nat → Int)
  | 0, _, t => t
  | k + 1, i, t => tops w a k (i + 1) (setF t (w.order.getD i 0).toNat (w.order.getD (a i).toNat 0))
def sizes (above : Nat → Int) : List Int → (Nat → Int) → (Nat → Int)
  | [], s => s
  | b :: l, s =>
    let s1 := setF s b.toNat (s b.toNat + 1)
    sizes above l (if b = 0 then s1 else setF s1 (above b.toNat).toNat (s1 (above b.toNat).toNat + s1 b.toNat))
def firsts (above size : Nat → Int) : List Int → (Nat → Int) × (Nat → Int) → (Nat → Int) × (Nat → Int)
  | [], s => s
  | b :: l, (first, free) =>
    let s1 := if b = 0 then (first, free) else (setF first b.toNat (free (above b.toNat).toNat), setF free (above b.toNat).toNat (free (above b.toNat).toNat + size b.toNat))
    firsts above size l (s1.1, setF s1.2 b.toNat (s1.1 b.toNat + 1))
def tree (bs : List Bl) (w : Wk) : Tr :=
  let a := aboveAll (semis bs w) (w.order.length - 1) 1 (fun i => w.parent.getD i 0)
  let ab := setF (tops w a (w.order.length - 1) 1 (fun _ => 0)) 0 (-1)
  let sz := sizes ab w.order.reverse (fun _ => 0)
  ⟨w.order, ab, (firsts ab sz w.order (fun _ => 0, fun _ => 0)).1, sz⟩
def Tr.dom (t : Tr) (a b : Int) : Bool := decide (t.first a.toNat ≤ t.first b.toNat) && decide (t.first b.toNat < t.first a.toNat + t.size a.toNat)
/- kinds -/
def kd (c : Cd) (n : Int) : Int := (c.v n).kind
def isOff (n : Int) : Bool := decide (0 ≤ n) && decide (n ≤ 65536)
def oneOf (kinds : List Int) (v : Vl) : Bool := isNum kinds.length v.n && kinds.getD v.n.toNat 0 == v.kind
def are (c : Cd) (values kinds : List Int) : Bool := values.map (kd c) == kinds
def areMem (c : Cd) (values kinds : List Int) : Bool := kd c (values.getLastD 0) == 12 && are c values.dropLast kinds
def arg (v : Vl) (i : Nat) : Int := v.args.getD i 0
def resFits (u : Un) (c : Cd) (v : Vl) : Bool := (c.v (arg v 0)).op == 14 && oneOf (u.codes.getD (c.v (arg v 0)).n.toNat cd0).results v
def addrFits (c : Cd) (v : Vl) : Bool := (isOff v.n && isOff v.m) && (if v.args.length = 1 then v.m == 0 && are c v.args [11] else are c v.args [11, 9])
def endFits (c : Cd) (b : Bl) : Bool := if b.kind = 2 then are c b.args [1] else if b.kind = 3 then areMem c b.args c.results else if b.kind = 4 then are c b.args [12] else true
/- order -/
def ahead (s : Ls) (t : Tr) (n block place : Int) : Bool := if s.home n.toNat = block then decide (s.spot n.toNat < place) else t.dom (s.home n.toNat) block
def useB (c : Cd) (s : Ls) (t : Tr) (n : Nat) (v : Vl) (i : Nat) (a : Int) : Bool :=
  if v.op = 6 then ahead s t a ((c.b (s.home n)).preds.getD i 0) (c.b ((c.b (s.home n)).preds.getD i 0)).list.length else ahead s t a (s.home n) (s.spot n)
def usesB (c : Cd) (s : Ls) (t : Tr) (n : Nat) (v : Vl) : Bool := (List.range v.args.length).all fun i => useB c s t n v i (v.args.getD i 0)
def orderB (c : Cd) (s : Ls) (t : Tr) : Bool :=
  (List.range c.values.length).all (fun n => usesB c s t n (c.v n)) && (List.range c.blocks.length).all (fun b => (c.b b).args.all fun a => ahead s t a b (c.b b).list.length)
/- memory -/
/-- the memory at a block's beginning, as far as its list tells -/
def beginIn (c : Cd) : List Int → Int → Bool × Int
  | [], m => (true, m)
  | n :: l, m => if (c.v n).op = 9 ∨ ((c.v n).op = 6 ∧ (c.v n).kind = 12) then (if m = -1 then beginIn c l n else (false, m)) else beginIn c l m
def chainIn (c : Cd) : List Int → Int → Bool × Int
  | [], m => (true, m)
  | n :: l, m =>
    if (c.v n).op = 8 then (if (c.v n).args.getLastD 0 = m then chainIn c l m else (false, m))
    else if (c.v n).op = 10 ∨ (c.v n).op = 11 ∨ (c.v n).op = 13 ∨ (c.v n).op = 14 then (if (c.v n).args.getLastD 0 = m then chainIn c l n else (false, m))
    else chainIn c l m
def begins (c : Cd) (t : Tr) (b : Int) (ends : Nat → Int) : Bool × Int :=
  let r := beginIn c (c.b b).list (-1)
  if r.1 then (true, if r.2 = -1 then ends (t.above b.toNat).toNat else r.2) else r
def chain (c : Cd) (b m : Int) : Bool × Int :=
  let r := chainIn c (c.b b).list m
  if r.1 then (if ((c.b b).kind == 3 || (c.b b).kind == 4) && (c.b b).args.getLastD 0 != r.2 then (false, r.2) else r) else r
def memIn (c : Cd) (t : Tr) : List Int → (Nat → Int) × (Nat → Int) → Bool × ((Nat → Int) × (Nat → Int))
  | [], s => (true, s)
  | b :: l, (bg, en) =>
    let r := begins c t b en
    if r.1 then (let q := chain c b r.2
      if q.1 then memIn c t l (setF bg b.toNat r.2, setF en b.toNat q.2) else (false, (setF bg b.toNat r.2, en))) else (false, (bg, en))
def joinB (c : Cd) (s : Ls) (en : Nat → Int) (b m : Int) : Bool :=
  (List.range (c.b b).preds.length).all fun i => (if (c.v m).op = 6 ∧ s.home m.toNat = b then arg (c.v m) i else m) == en ((c.b b).preds.getD i 0).toNat
def memB (c : Cd) (s : Ls) (t : Tr) : Bool :=
  let r := memIn c t t.order (fun _ => 0, fun _ => 0)
  r.1 && t.order.all (fun b => joinB c s r.2.2 b (r.2.1 b.toNat))
end Sa
end Go.Proofs.Ytbpdggdpgohilaa
