/- Contracts and plain facts that the walks share. -/
import Derived.Test.YtljdjkiejppenaaRcT
import Derived.Laws.AppendOwnNone
import Derived.Deep.Onto
import Derived.Deep.Slices
import Derived.OpenShut
import Derived.SizedLaws
namespace Go.Proofs.Ytljdjkiejppenaa
open Go.RowKit
set_option linter.unusedVariables false
section
variable {P : Program} {ops : Array Oper} {md : Region.Mode} {C : World → Prop}

/-- in this state, in every world of the class, the operation is a call that panics -/
def PanicsIn (P : Program) (ops : Array Oper) (C : World → Prop) (o : Oper) (Z : List PanicEntry → World → Prop) (a : Act) : Prop :=
  Region.wanted o (yielded ops a.tmps) = true ∧ ∀ w, C w → ∃ f args, (execOp a.eval o).run P w = .ok (.enter f args) w ∧ Calls P f args w fun e w' => ∃ ch, e = .panicked ch ∧ Z ch w'

theorem put_defers (a : Act) (d : Option Tmp) (v : Value) : (a.put d v).defers = a.defers := by cases d <;> rfl

theorem PanicsIn.wpOp {p : Nat} {o : Oper} {Z : List PanicEntry → World → Prop} {a : Act} {w : World} {K : Act → World → Prop} {Q : Exit → Act → World → Prop} (ho : ops[p]? = some o) (hw : C w) (h : PanicsIn P ops C o Z a) (hQ : ∀ ch w', Z ch w' → Q (.panic ch) a w') : wpOp P ops Q p K a w := by
  obtain ⟨h1, h2⟩ := h
  obtain ⟨f, args, h3, h4⟩ := h2 w hw
  unfold Go.wpOp
  simp only [ho, h1, if_true]
  refine .inl ?_
  unfold Oper.wp
  rw [h3, Oper.upon_enter]
  refine h4.mono ?_
  rintro e w' ⟨ch, rfl, hz⟩
  exact hQ ch w' hz

end
/-- only blocks of l are turned, and new ones made -/
structure Ch (w w' : World) (l : List Nat) : Prop where
  os : w'.os = w.os
  tape : w'.tape = w.tape
  output : w'.output = w.output
  size : w.heap.size ≤ w'.heap.size
  block : ∀ k, k < w.heap.size → k ∉ l → w'.heap[k]? = w.heap[k]?
theorem Ch.refl (w : World) (l : List Nat) : Ch w w l := ⟨rfl, rfl, rfl, Nat.le_refl _, fun _ _ _ => rfl⟩
theorem Ch.trans {w w1 w2 : World} {l : List Nat} (h1 : Ch w w1 l) (h2 : Ch w1 w2 l) : Ch w w2 l :=
  ⟨h2.os.trans h1.os, h2.tape.trans h1.tape, h2.output.trans h1.output, Nat.le_trans h1.size h2.size, fun k hk hl => (h2.block k (Nat.lt_of_lt_of_le hk h1.size) hl).trans (h1.block k hk hl)⟩
theorem Ch.of {w w' : World} {l : List Nat} (h : w.grownBy w' none) : Ch w w' l := ⟨h.os, h.tape, h.output, h.size, fun k hk _ => h.block k hk (by simp)⟩
theorem Ch.one {w w' : World} {b : Nat} {l : List Nat} (h : w.grownBy w' (some b)) (hb : b ∈ l) : Ch w w' l := ⟨h.os, h.tape, h.output, h.size, fun k hk hl => h.block k hk (by intro e; injection e with e; subst e; exact hl hb)⟩
theorem Ch.mono {w w' : World} {l l' : List Nat} (h : Ch w w' l) (hl : ∀ k, k < w.heap.size → k ∈ l → k ∈ l') : Ch w w' l' := ⟨h.os, h.tape, h.output, h.size, fun k hk hn => h.block k hk (fun hm => hn (hl k hk hm))⟩
theorem Ch.nil {w w' : World} {l : List Nat} (h : Ch w w' l) (hl : ∀ k, k ∈ l → w.heap.size ≤ k) : w.grownBy w' none := ⟨h.os, h.tape, h.output, h.size, fun k hk _ => h.block k hk (fun hm => by have := hl k hm; omega)⟩
theorem Ch.below {w w' : World} {l : List Nat} {N : Nat} (h : Ch w w' l) (hN : N ≤ w.heap.size) (hl : ∀ k, k ∈ l → N ≤ k) : Below N w w' := ⟨h.os, h.tape, h.output, h.size, fun k hk => h.block k (by omega) (fun hm => by have := hl k hm; omega)⟩
theorem Ch.new {w w1 w2 : World} {l : List Nat} (h1 : Ch w w1 l) {b : Nat} (hb : w.heap.size ≤ b) (h2 : w1.grownBy w2 (some b)) : Ch w w2 l :=
  ⟨h2.os.trans h1.os, h2.tape.trans h1.tape, h2.output.trans h1.output, Nat.le_trans h1.size h2.size, fun k hk hl => (h2.block k (Nat.lt_of_lt_of_le hk h1.size) (by intro e; injection e with e; omega)).trans (h1.block k hk hl)⟩
theorem Ch.cell {w w' : World} {l : List Nat} (h : Ch w w' l) {b o : Nat} {v : Value} (hc : w.cell? ⟨b, o, none⟩ = some v) (hb : b ∉ l) : w'.cell? ⟨b, o, none⟩ = some v := by
  have hlt := World.block_lt_of_cell? _ _ hc
  rw [← hc]
  exact World.cell?_of_block (h.block b hlt hb)
/-- numbers that lie in a row, below block N -/
structure NumIn (N : Nat) (w : World) (a : Option Addr) (n c : Nat) (M : Nat → Int) : Prop where
  le : n ≤ c
  max : c ≤ maxLen
  lie : n = 0 ∨ ∃ b off, a = some ⟨b, off, none⟩ ∧ b < N ∧ ∀ i, i < n → w.cell? ⟨b, off + i, none⟩ = some (.int .i64 (M i))
theorem NumIn.ch {N : Nat} {w w' : World} {a : Option Addr} {n c : Nat} {M : Nat → Int} {l : List Nat} (h : NumIn N w a n c M) (hg : Ch w w' l) (hl : ∀ k, k ∈ l → N ≤ k) : NumIn N w' a n c M :=
  ⟨h.le, h.max, by
    rcases h.lie with h0 | ⟨b, off, e, hb, hi⟩
    · exact .inl h0
    · exact .inr ⟨b, off, e, hb, fun i hi' => hg.cell (hi i hi') (fun hm => by have := hl b hm; omega)⟩⟩
/-- numbers of the call's own -/
def OwnN (w : World) (base : Nat) (v : Value) (n : Nat) (g : Nat → Int) : Prop := w.ownsRow base 3 1 v n ((List.range n).map fun i => Value.int .i64 (g i))
/-- .. as a list -/
def OwnZ (w : World) (base : Nat) (v : Value) (l : List Int) : Prop := w.ownsRow base 3 1 v l.length (l.map (Value.int .i64))
theorem OwnZ.n {w : World} {base : Nat} {v : Value} {l : List Int} (h : OwnZ w base v l) : OwnN w base v l.length (fun i => l.getD i 0) := by
  unfold OwnN
  have e : (List.range l.length).map (fun i => Value.int .i64 (l.getD i 0)) = l.map (Value.int .i64) := by
    refine List.ext_getElem (by simp) fun i h1 h2 => ?_
    simp at h1
    simp [List.getD_eq_getElem?_getD, List.getElem?_eq_getElem h1]
  rw [e]
  exact h
theorem OwnN.z {w : World} {base n : Nat} {v : Value} {g : Nat → Int} (h : OwnN w base v n g) : OwnZ w base v ((List.range n).map g) := by
  unfold OwnZ
  rw [List.length_map, List.length_range, List.map_map]
  exact h
theorem OwnN.congr {w : World} {base n : Nat} {v : Value} {g g' : Nat → Int} (h : OwnN w base v n g) (e : ∀ i, i < n → g i = g' i) : OwnN w base v n g' := by
  unfold OwnN at h ⊢
  rw [show (List.range n).map (fun i => Value.int .i64 (g' i)) = (List.range n).map (fun i => Value.int .i64 (g i)) from List.map_congr_left fun i hi => by rw [e i (List.mem_range.1 hi)]]
  exact h
theorem OwnN.low {w : World} {base base' n : Nat} {v : Value} {g : Nat → Int} (h : OwnN w base v n g) (hb : base' ≤ base) : OwnN w base' v n g := World.ownsRow.mono h hb
theorem OwnZ.low {w : World} {base base' : Nat} {v : Value} {l : List Int} (h : OwnZ w base v l) (hb : base' ≤ base) : OwnZ w base' v l := World.ownsRow.mono h hb
theorem ownsRow_ch {w w' : World} {l : List Nat} {base : Nat} {e : TypeId} {size n : Nat} {v : Value} {xs : List Value} (h : w.ownsRow base e size v n xs) (hg : Ch w w' l) (hne : ∀ k, v.ownBlock = some k → k ∉ l) : w'.ownsRow base e size v n xs := by
  refine ⟨h.1, ?_⟩
  rcases h.2 with h0 | ⟨g, cap, cur, e1, e2, e3, e4⟩
  · exact .inl h0
  · have hlt : g < w.heap.size := (World.ownsRow.lt h g (by rw [e1]; rfl)).2
    exact .inr ⟨g, cap, cur, e1, e2, (hg.block g hlt (hne g (by rw [e1]; rfl))).trans e3, e4⟩
theorem OwnN.ch {w w' : World} {l : List Nat} {base n : Nat} {v : Value} {g : Nat → Int} (h : OwnN w base v n g) (hg : Ch w w' l) (hne : ∀ k, v.ownBlock = some k → k ∉ l) : OwnN w' base v n g := ownsRow_ch h hg hne
theorem OwnZ.ch {w w' : World} {l : List Nat} {base : Nat} {v : Value} {z : List Int} (h : OwnZ w base v z) (hg : Ch w w' l) (hne : ∀ k, v.ownBlock = some k → k ∉ l) : OwnZ w' base v z := ownsRow_ch h hg hne
theorem OwnN.grow {w w' : World} {base n : Nat} {v : Value} {g : Nat → Int} (h : OwnN w base v n g) (hg : w.grownBy w' none) : OwnN w' base v n g := World.ownsRow.kept h hg (Classical.em _)
theorem OwnZ.grow {w w' : World} {base : Nat} {v : Value} {l : List Int} (h : OwnZ w base v l) (hg : w.grownBy w' none) : OwnZ w' base v l := World.ownsRow.kept h hg (Classical.em _)
theorem OwnN.base {w : World} {base n : Nat} {v : Value} {g : Nat → Int} (h : OwnN w base v n g) : ∀ k, v.ownBlock = some k → base ≤ k := fun k hk => (World.ownsRow.lt h k hk).1
theorem OwnZ.base {w : World} {base : Nat} {v : Value} {l : List Int} (h : OwnZ w base v l) : ∀ k, v.ownBlock = some k → base ≤ k := fun k hk => (World.ownsRow.lt h k hk).1
theorem OwnN.lt {w : World} {base n : Nat} {v : Value} {g : Nat → Int} (h : OwnN w base v n g) : ∀ k, v.ownBlock = some k → k < w.heap.size := fun k hk => (World.ownsRow.lt h k hk).2
theorem OwnZ.lt {w : World} {base : Nat} {v : Value} {l : List Int} (h : OwnZ w base v l) : ∀ k, v.ownBlock = some k → k < w.heap.size := fun k hk => (World.ownsRow.lt h k hk).2
theorem OwnN.slice {w : World} {base n : Nat} {v : Value} {g : Nat → Int} (h : OwnN w base v n g) : ∃ a c, v = .slice a n c ∧ n ≤ c ∧ c ≤ maxLen ∧ (0 < n → ∃ T, a = some ⟨T, 0, none⟩ ∧ base ≤ T ∧ T < w.heap.size) := by
  rcases h.2 with ⟨rfl, h0⟩ | ⟨T, c, cur, rfl, e2, e3, e4, e5, _⟩
  · exact ⟨none, 0, by rw [h0], by omega, Nat.zero_le _, fun h => by omega⟩
  · exact ⟨some ⟨T, 0, none⟩, c, rfl, e4, e5, fun _ => ⟨T, rfl, e2, (World.ownsRow.lt h T rfl).2⟩⟩
theorem OwnZ.slice {w : World} {base : Nat} {v : Value} {l : List Int} (h : OwnZ w base v l) : ∃ a c, v = .slice a l.length c ∧ l.length ≤ c ∧ c ≤ maxLen ∧ (0 < l.length → ∃ T, a = some ⟨T, 0, none⟩ ∧ base ≤ T ∧ T < w.heap.size) := h.n.slice
theorem OwnN.cell {w : World} {base n c T : Nat} {g : Nat → Int} (h : OwnN w base (.slice (some ⟨T, 0, none⟩) n c) n g) {i : Nat} (hi : i < n) : w.cell? ⟨T, i, none⟩ = some (.int .i64 (g i)) := by
  rw [World.ownsRow.cellAt h i (by omega), List.getElem?_map, List.getElem?_range hi]
  rfl
theorem OwnN.frozen {w : World} {base n c T : Nat} {g : Nat → Int} (h : OwnN w base (.slice (some ⟨T, 0, none⟩) n c) n g) (i : Nat) : w.frozen? ⟨T, i, none⟩ = false := World.ownsRow.frozenAt h i
def setF (g : Nat → Int) (i : Nat) (x : Int) : Nat → Int := fun k => if k = i then x else g k
theorem grown_set (w : World) (T i : Nat) (u : Value) : w.grownBy (w.setCell ⟨T, i, none⟩ u) (some T) := grown_setCell _ _ _ _
theorem OwnN.set {w : World} {base n c T : Nat} {g : Nat → Int} (h : OwnN w base (.slice (some ⟨T, 0, none⟩) n c) n g) {i : Nat} (hi : i < n) (x : Int) : OwnN (w.setCell ⟨T, i, none⟩ (.int .i64 x)) base (.slice (some ⟨T, 0, none⟩) n c) n (setF g i x) := by
  have := (World.ownsRow.stored h i (.int .i64 x)).1
  unfold OwnN
  rw [show (List.range n).map (fun k => Value.int .i64 (setF g i x k)) = ((List.range n).map fun k => Value.int .i64 (g k)).set i (.int .i64 x) from ?_]
  · exact this
  · refine List.ext_getElem (by simp) fun k h1 h2 => ?_
    simp at h1
    simp [setF, List.getElem_set]
    by_cases e : k = i
    · subst e; simp
    · simp [e, Ne.symm e]
theorem info_int : (Try.prog.info? 3).map (fun i => (i.zero, i.size, i.bytes)) = some (some (.int .i64 0), 1, 8) := by kernel_rfl
theorem NumIn.at {N : Nat} {w : World} {a : Option Addr} {n c : Nat} {M : Nat → Int} (h : NumIn N w a n c M) {i : Nat} (hi : i < n) : ∃ b off, a = some ⟨b, off, none⟩ ∧ b < N ∧ w.cell? ⟨b, off + i, none⟩ = some (.int .i64 (M i)) := by
  rcases h.lie with h0 | ⟨b, off, e, hb, hh⟩
  · omega
  · exact ⟨b, off, e, hb, hh i hi⟩
namespace Pg
/-- a term -/
inductive Ex where
  | mk (op t n : Int) (s : ByteArray) (args : List Ex)
/-- a statement -/
inductive St where
  | mk (op n : Int) (args : List Ex) (dst : List Int) (a b : List St)
def Ex.op : Ex → Int
  | .mk op _ _ _ _ => op
def Ex.t : Ex → Int
  | .mk _ t _ _ _ => t
def Ex.n : Ex → Int
  | .mk _ _ n _ _ => n
def Ex.s : Ex → ByteArray
  | .mk _ _ _ s _ => s
def Ex.args : Ex → List Ex
  | .mk _ _ _ _ l => l
def St.op : St → Int
  | .mk op _ _ _ _ _ => op
def St.n : St → Int
  | .mk _ n _ _ _ _ => n
def St.args : St → List Ex
  | .mk _ _ l _ _ _ => l
def St.dst : St → List Int
  | .mk _ _ _ d _ _ => d
def St.a : St → List St
  | .mk _ _ _ _ a _ => a
def St.b : St → List St
  | .mk _ _ _ _ _ b => b
theorem Ex.ind {P : Ex → Prop} (h : ∀ op t n s args, (∀ x, x ∈ args → P x) → P (.mk op t n s args)) : ∀ x, P x
  | .mk op t n s args => h op t n s args fun x hx => Ex.ind h x
theorem St.ind {P : St → Prop} (h : ∀ op n args dst a b, (∀ x, x ∈ a → P x) → (∀ x, x ∈ b → P x) → P (.mk op n args dst a b)) : ∀ x, P x
  | .mk op n args dst a b => h op n args dst a b (fun x hx => St.ind h x) (fun x hx => St.ind h x)
/-- an entry of types, a function, a program -/
structure Tp where
  kind : Int
  elem : Int
  n : Int
  fields : List Int
structure Fn where
  params : Int
  locals : List Int
  results : List Int
  body : List St
structure Pr where
  types : List Tp
  funcs : List Fn
end Pg
/-- a row of things of c cells, by' bytes each; its block is one of B -/
structure RowL {α : Type} (c by' : Nat) (B : Nat → Prop) (Q : Nat → Nat → α → Prop) (a : Option Addr) (cap : Nat) (l : List α) : Prop where
  nil : a = none → l = [] ∧ cap = 0
  le : l.length ≤ cap
  max : cap ≤ maxLen
  fits : l.length * by' ≤ reachBytes
  lie : l = [] ∨ ∃ b o, a = some ⟨b, o, none⟩ ∧ B b ∧ ∀ i x, l[i]? = some x → Q b (o + i * c) x
theorem RowL.mono {α : Type} {c by' : Nat} {B B' : Nat → Prop} {Q Q' : Nat → Nat → α → Prop} {a : Option Addr} {cap : Nat} {l : List α} (h : RowL c by' B Q a cap l) (hB : ∀ k, B k → B' k) (hQ : ∀ b o x, B b → x ∈ l → Q b o x → Q' b o x) : RowL c by' B' Q' a cap l :=
  ⟨h.nil, h.le, h.max, h.fits, by
    rcases h.lie with h0 | ⟨b, o, e, hb, hx⟩
    · exact .inl h0
    · exact .inr ⟨b, o, e, hB b hb, fun i x hi => hQ _ _ _ hb (List.mem_of_getElem? hi) (hx i x hi)⟩⟩
theorem RowL.at {α : Type} {c by' : Nat} {B : Nat → Prop} {Q : Nat → Nat → α → Prop} {a : Option Addr} {cap : Nat} {l : List α} (h : RowL c by' B Q a cap l) {i : Nat} (hi : i < l.length) : ∃ b o, a = some ⟨b, o, none⟩ ∧ B b ∧ Q b (o + i * c) l[i] := by
  rcases h.lie with h0 | ⟨b, o, e, hb, hx⟩
  · subst h0; simp at hi
  · exact ⟨b, o, e, hb, hx i _ (List.getElem?_eq_getElem hi)⟩
/-- numbers in a row -/
def NumQ (W : World) (b o : Nat) (z : Int) : Prop := W.cell? ⟨b, o, none⟩ = some (.int .i64 z)
abbrev NumL (B : Nat → Prop) (W : World) (a : Option Addr) (cap : Nat) (l : List Int) : Prop := RowL 1 8 B (NumQ W) a cap l
def R64 (n : Int) : Prop := -9223372036854775808 ≤ n ∧ n ≤ 9223372036854775807
/-- a term, as it lies; the blocks of what is in it are of B -/
inductive ExAt (B : Nat → Prop) (W : World) : Nat → Nat → Pg.Ex → Prop
  | mk {b o : Nat} {op t n : Int} {s : ByteArray} {args : List Pg.Ex} {a : Option Addr} {c b' o' : Nat}
    (c0 : W.cell? ⟨b, o, none⟩ = some (.int .i64 op)) (c1 : W.cell? ⟨b, o + 1, none⟩ = some (.int .i64 t)) (c2 : W.cell? ⟨b, o + 2, none⟩ = some (.int .i64 n)) (c3 : W.cell? ⟨b, o + 3, none⟩ = some (.string s)) (c4 : W.cell? ⟨b, o + 4, none⟩ = some (.slice a args.length c))
    (rg : R64 n) (sz : s.size ≤ reachBytes) (nil : a = none → args = [] ∧ c = 0) (le : args.length ≤ c) (max : c ≤ maxLen) (fits : args.length * 64 ≤ reachBytes) (pl : args ≠ [] → a = some ⟨b', o', none⟩ ∧ B b')
    (all : ∀ i x, args[i]? = some x → ExAt B W b' (o' + i * 5) x) : ExAt B W b o (.mk op t n s args)
abbrev ExL (B : Nat → Prop) (W : World) (a : Option Addr) (cap : Nat) (l : List Pg.Ex) : Prop := RowL 5 64 B (ExAt B W) a cap l
/-- what lies at a term -/
structure ExC (B : Nat → Prop) (W : World) (b o : Nat) (x : Pg.Ex) (a : Option Addr) (c : Nat) : Prop where
  c0 : W.cell? ⟨b, o, none⟩ = some (.int .i64 x.op)
  c1 : W.cell? ⟨b, o + 1, none⟩ = some (.int .i64 x.t)
  c2 : W.cell? ⟨b, o + 2, none⟩ = some (.int .i64 x.n)
  c3 : W.cell? ⟨b, o + 3, none⟩ = some (.string x.s)
  c4 : W.cell? ⟨b, o + 4, none⟩ = some (.slice a x.args.length c)
  rg : R64 x.n
  sz : x.s.size ≤ reachBytes
  args : ExL B W a c x.args
theorem ExAt.row {B : Nat → Prop} {W : World} {b o : Nat} {x : Pg.Ex} (h : ExAt B W b o x) : ∃ a c, ExC B W b o x a c := by
  cases h with
  | mk c0 c1 c2 c3 c4 rg sz nil le max fits pl all =>
    refine ⟨_, _, c0, c1, c2, c3, c4, rg, sz, nil, le, max, fits, ?_⟩
    rename_i args _ _ _ _
    by_cases h0 : args = []
    · exact .inl h0
    · exact .inr ⟨_, _, (pl h0).1, (pl h0).2, all⟩
theorem ExC.at {B : Nat → Prop} {W : World} {b o : Nat} {x : Pg.Ex} {a : Option Addr} {c : Nat} (h : ExC B W b o x a c) : ExAt B W b o x := by
  obtain ⟨op, t, n, s, args⟩ := x
  obtain ⟨c0, c1, c2, c3, c4, rg, sz, h⟩ := h
  rcases h.lie with h0 | ⟨b', o', e, hb, hx⟩
  · exact .mk (b' := 0) (o' := 0) c0 c1 c2 c3 c4 rg sz h.nil h.le h.max h.fits (fun hn => absurd h0 hn) (fun i x hi => by rw [show args = [] from h0] at hi; simp at hi)
  · exact .mk c0 c1 c2 c3 c4 rg sz h.nil h.le h.max h.fits (fun _ => ⟨e, hb⟩) hx
theorem ExAt.ch {B B' : Nat → Prop} {W W' : World} {l : List Nat} (hg : Ch W W' l) (hl : ∀ k, B k → k ∉ l) (hB : ∀ k, B k → B' k) : ∀ {b o : Nat} {x : Pg.Ex}, ExAt B W b o x → b ∉ l → ExAt B' W' b o x
  | _, _, _, .mk c0 c1 c2 c3 c4 rg sz nil le max fits pl all, hb =>
    .mk (hg.cell c0 hb) (hg.cell c1 hb) (hg.cell c2 hb) (hg.cell c3 hb) (hg.cell c4 hb) rg sz nil le max fits (fun h => ⟨(pl h).1, hB _ (pl h).2⟩) (fun i x hi => ExAt.ch hg hl hB (all i x hi) (hl _ (pl (by intro h; rw [h] at hi; simp at hi)).2))
theorem ExL.ch {B B' : Nat → Prop} {W W' : World} {l : List Nat} {a : Option Addr} {cap : Nat} {xs : List Pg.Ex} (h : ExL B W a cap xs) (hg : Ch W W' l) (hl : ∀ k, B k → k ∉ l) (hB : ∀ k, B k → B' k) : ExL B' W' a cap xs := h.mono hB (fun b o x hb _ hx => ExAt.ch hg hl hB hx (hl b hb))
theorem NumL.ch {B B' : Nat → Prop} {W W' : World} {l : List Nat} {a : Option Addr} {cap : Nat} {xs : List Int} (h : NumL B W a cap xs) (hg : Ch W W' l) (hl : ∀ k, B k → k ∉ l) (hB : ∀ k, B k → B' k) : NumL B' W' a cap xs := h.mono hB (fun b o x hb _ hx => hg.cell hx (hl b hb))
/-- a statement, as it lies -/
inductive StAt (B : Nat → Prop) (W : World) : Nat → Nat → Pg.St → Prop
  | mk {b o : Nat} {op n : Int} {args : List Pg.Ex} {dst : List Int} {xa xb : List Pg.St} {a1 a2 a3 a4 : Option Addr} {k1 k2 k3 k4 b3 o3 b4 o4 : Nat}
    (c0 : W.cell? ⟨b, o, none⟩ = some (.int .i64 op)) (c1 : W.cell? ⟨b, o + 1, none⟩ = some (.int .i64 n)) (c2 : W.cell? ⟨b, o + 2, none⟩ = some (.slice a1 args.length k1)) (c3 : W.cell? ⟨b, o + 3, none⟩ = some (.slice a2 dst.length k2)) (c4 : W.cell? ⟨b, o + 4, none⟩ = some (.slice a3 xa.length k3)) (c5 : W.cell? ⟨b, o + 5, none⟩ = some (.slice a4 xb.length k4))
    (rg : R64 n) (h1 : ExL B W a1 k1 args) (h2 : NumL B W a2 k2 dst)
    (n3 : a3 = none → xa = [] ∧ k3 = 0) (l3 : xa.length ≤ k3) (m3 : k3 ≤ maxLen) (f3 : xa.length * 112 ≤ reachBytes) (p3 : xa ≠ [] → a3 = some ⟨b3, o3, none⟩ ∧ B b3) (q3 : ∀ i x, xa[i]? = some x → StAt B W b3 (o3 + i * 6) x)
    (n4 : a4 = none → xb = [] ∧ k4 = 0) (l4 : xb.length ≤ k4) (m4 : k4 ≤ maxLen) (f4 : xb.length * 112 ≤ reachBytes) (p4 : xb ≠ [] → a4 = some ⟨b4, o4, none⟩ ∧ B b4) (q4 : ∀ i x, xb[i]? = some x → StAt B W b4 (o4 + i * 6) x) : StAt B W b o (.mk op n args dst xa xb)
abbrev StL (B : Nat → Prop) (W : World) (a : Option Addr) (cap : Nat) (l : List Pg.St) : Prop := RowL 6 112 B (StAt B W) a cap l
/-- what lies at a statement -/
structure StC (B : Nat → Prop) (W : World) (b o : Nat) (x : Pg.St) (a1 a2 a3 a4 : Option Addr) (k1 k2 k3 k4 : Nat) : Prop where
  c0 : W.cell? ⟨b, o, none⟩ = some (.int .i64 x.op)
  c1 : W.cell? ⟨b, o + 1, none⟩ = some (.int .i64 x.n)
  c2 : W.cell? ⟨b, o + 2, none⟩ = some (.slice a1 x.args.length k1)
  c3 : W.cell? ⟨b, o + 3, none⟩ = some (.slice a2 x.dst.length k2)
  c4 : W.cell? ⟨b, o + 4, none⟩ = some (.slice a3 x.a.length k3)
  c5 : W.cell? ⟨b, o + 5, none⟩ = some (.slice a4 x.b.length k4)
  rg : R64 x.n
  args : ExL B W a1 k1 x.args
  dst : NumL B W a2 k2 x.dst
  a : StL B W a3 k3 x.a
  b : StL B W a4 k4 x.b
theorem StAt.row {B : Nat → Prop} {W : World} {b o : Nat} {x : Pg.St} (h : StAt B W b o x) : ∃ a1 a2 a3 a4 k1 k2 k3 k4, StC B W b o x a1 a2 a3 a4 k1 k2 k3 k4 := by
  cases h with
  | mk c0 c1 c2 c3 c4 c5 rg h1 h2 n3 l3 m3 f3 p3 q3 n4 l4 m4 f4 p4 q4 =>
    refine ⟨_, _, _, _, _, _, _, _, c0, c1, c2, c3, c4, c5, rg, h1, h2, ⟨n3, l3, m3, f3, ?_⟩, ⟨n4, l4, m4, f4, ?_⟩⟩
    · rename_i xa xb _ _ _ _ _ _ _ _ _ _ _ _
      by_cases h0 : xa = []
      · exact .inl h0
      · exact .inr ⟨_, _, (p3 h0).1, (p3 h0).2, q3⟩
    · rename_i xa xb _ _ _ _ _ _ _ _ _ _ _ _
      by_cases h0 : xb = []
      · exact .inl h0
      · exact .inr ⟨_, _, (p4 h0).1, (p4 h0).2, q4⟩
theorem StC.at {B : Nat → Prop} {W : World} {b o : Nat} {x : Pg.St} {a1 a2 a3 a4 : Option Addr} {k1 k2 k3 k4 : Nat} (h : StC B W b o x a1 a2 a3 a4 k1 k2 k3 k4) : StAt B W b o x := by
  obtain ⟨op, n, args, dst, xa, xb⟩ := x
  obtain ⟨c0, c1, c2, c3, c4, c5, rg, h1, h2, h3, h4⟩ := h
  have g : ∀ {a : Option Addr} {k : Nat} {l : List Pg.St}, StL B W a k l → ∃ b' o', (l ≠ [] → a = some ⟨b', o', none⟩ ∧ B b') ∧ ∀ i x, l[i]? = some x → StAt B W b' (o' + i * 6) x := by
    intro a k l h
    rcases h.lie with h0 | ⟨b', o', e, hb, hx⟩
    · exact ⟨0, 0, fun hn => absurd h0 hn, fun i x hi => by rw [h0] at hi; simp at hi⟩
    · exact ⟨b', o', fun _ => ⟨e, hb⟩, hx⟩
  obtain ⟨b3, o3, p3, q3⟩ := g h3
  obtain ⟨b4, o4, p4, q4⟩ := g h4
  exact .mk c0 c1 c2 c3 c4 c5 rg h1 h2 h3.nil h3.le h3.max h3.fits p3 q3 h4.nil h4.le h4.max h4.fits p4 q4
theorem StAt.ch {B B' : Nat → Prop} {W W' : World} {l : List Nat} (hg : Ch W W' l) (hl : ∀ k, B k → k ∉ l) (hB : ∀ k, B k → B' k) : ∀ {b o : Nat} {x : Pg.St}, StAt B W b o x → b ∉ l → StAt B' W' b o x
  | _, _, _, .mk c0 c1 c2 c3 c4 c5 rg h1 h2 n3 l3 m3 f3 p3 q3 n4 l4 m4 f4 p4 q4, hb =>
    .mk (hg.cell c0 hb) (hg.cell c1 hb) (hg.cell c2 hb) (hg.cell c3 hb) (hg.cell c4 hb) (hg.cell c5 hb) rg (ExL.ch h1 hg hl hB) (NumL.ch h2 hg hl hB)
      n3 l3 m3 f3 (fun h => ⟨(p3 h).1, hB _ (p3 h).2⟩) (fun i x hi => StAt.ch hg hl hB (q3 i x hi) (hl _ (p3 (by intro h; rw [h] at hi; simp at hi)).2))
      n4 l4 m4 f4 (fun h => ⟨(p4 h).1, hB _ (p4 h).2⟩) (fun i x hi => StAt.ch hg hl hB (q4 i x hi) (hl _ (p4 (by intro h; rw [h] at hi; simp at hi)).2))
theorem StL.ch {B B' : Nat → Prop} {W W' : World} {l : List Nat} {a : Option Addr} {cap : Nat} {xs : List Pg.St} (h : StL B W a cap xs) (hg : Ch W W' l) (hl : ∀ k, B k → k ∉ l) (hB : ∀ k, B k → B' k) : StL B' W' a cap xs := h.mono hB (fun b o x hb _ hx => StAt.ch hg hl hB hx (hl b hb))
/-- an entry of types, as it lies -/
structure TpC (B : Nat → Prop) (W : World) (b o : Nat) (x : Pg.Tp) (a : Option Addr) (k : Nat) : Prop where
  c0 : W.cell? ⟨b, o, none⟩ = some (.int .i64 x.kind)
  c1 : W.cell? ⟨b, o + 1, none⟩ = some (.int .i64 x.elem)
  c2 : W.cell? ⟨b, o + 2, none⟩ = some (.int .i64 x.n)
  c3 : W.cell? ⟨b, o + 3, none⟩ = some (.slice a x.fields.length k)
  f : NumL B W a k x.fields
def TpAt (B : Nat → Prop) (W : World) (b o : Nat) (x : Pg.Tp) : Prop := ∃ a k, TpC B W b o x a k
abbrev TpL (B : Nat → Prop) (W : World) (a : Option Addr) (cap : Nat) (l : List Pg.Tp) : Prop := RowL 4 48 B (TpAt B W) a cap l
theorem TpAt.ch {B B' : Nat → Prop} {W W' : World} {l : List Nat} (hg : Ch W W' l) (hl : ∀ k, B k → k ∉ l) (hB : ∀ k, B k → B' k) {b o : Nat} {x : Pg.Tp} (h : TpAt B W b o x) (hb : b ∉ l) : TpAt B' W' b o x := by
  obtain ⟨a, k, h⟩ := h
  exact ⟨a, k, hg.cell h.c0 hb, hg.cell h.c1 hb, hg.cell h.c2 hb, hg.cell h.c3 hb, NumL.ch h.f hg hl hB⟩
theorem TpL.ch {B B' : Nat → Prop} {W W' : World} {l : List Nat} {a : Option Addr} {cap : Nat} {xs : List Pg.Tp} (h : TpL B W a cap xs) (hg : Ch W W' l) (hl : ∀ k, B k → k ∉ l) (hB : ∀ k, B k → B' k) : TpL B' W' a cap xs := h.mono hB (fun b o x hb _ hx => TpAt.ch hg hl hB hx (hl b hb))
/-- a function, as it lies -/
structure FnC (B : Nat → Prop) (W : World) (b o : Nat) (x : Pg.Fn) (a1 a2 a3 : Option Addr) (k1 k2 k3 : Nat) : Prop where
  c0 : W.cell? ⟨b, o, none⟩ = some (.int .i64 x.params)
  c1 : W.cell? ⟨b, o + 1, none⟩ = some (.slice a1 x.locals.length k1)
  c2 : W.cell? ⟨b, o + 2, none⟩ = some (.slice a2 x.results.length k2)
  c3 : W.cell? ⟨b, o + 3, none⟩ = some (.slice a3 x.body.length k3)
  l : NumL B W a1 k1 x.locals
  r : NumL B W a2 k2 x.results
  b : StL B W a3 k3 x.body
def FnAt (B : Nat → Prop) (W : World) (b o : Nat) (x : Pg.Fn) : Prop := ∃ a1 a2 a3 k1 k2 k3, FnC B W b o x a1 a2 a3 k1 k2 k3
abbrev FnL (B : Nat → Prop) (W : World) (a : Option Addr) (cap : Nat) (l : List Pg.Fn) : Prop := RowL 4 80 B (FnAt B W) a cap l
theorem FnAt.ch {B B' : Nat → Prop} {W W' : World} {l : List Nat} (hg : Ch W W' l) (hl : ∀ k, B k → k ∉ l) (hB : ∀ k, B k → B' k) {b o : Nat} {x : Pg.Fn} (h : FnAt B W b o x) (hb : b ∉ l) : FnAt B' W' b o x := by
  obtain ⟨a1, a2, a3, k1, k2, k3, h⟩ := h
  exact ⟨a1, a2, a3, k1, k2, k3, hg.cell h.c0 hb, hg.cell h.c1 hb, hg.cell h.c2 hb, hg.cell h.c3 hb, NumL.ch h.l hg hl hB, NumL.ch h.r hg hl hB, StL.ch h.b hg hl hB⟩
theorem FnL.ch {B B' : Nat → Prop} {W W' : World} {l : List Nat} {a : Option Addr} {cap : Nat} {xs : List Pg.Fn} (h : FnL B W a cap xs) (hg : Ch W W' l) (hl : ∀ k, B k → k ∉ l) (hB : ∀ k, B k → B' k) : FnL B' W' a cap xs := h.mono hB (fun b o x hb _ hx => FnAt.ch hg hl hB hx (hl b hb))
/-- a program, as it is handed over: its two rows -/
structure PrC (B : Nat → Prop) (W : World) (x : Pg.Pr) (a1 a2 : Option Addr) (k1 k2 : Nat) : Prop where
  t : TpL B W a1 k1 x.types
  f : FnL B W a2 k2 x.funcs
theorem PrC.ch {B B' : Nat → Prop} {W W' : World} {l : List Nat} (hg : Ch W W' l) (hl : ∀ k, B k → k ∉ l) (hB : ∀ k, B k → B' k) {x : Pg.Pr} {a1 a2 : Option Addr} {k1 k2 : Nat} (h : PrC B W x a1 a2 k1 k2) : PrC B' W' x a1 a2 k1 k2 := ⟨TpL.ch h.t hg hl hB, FnL.ch h.f hg hl hB⟩
def PrAt (B : Nat → Prop) (W : World) (b o : Nat) (x : Pg.Pr) : Prop := ∃ a1 a2 k1 k2, W.cell? ⟨b, o, none⟩ = some (.slice a1 x.types.length k1) ∧ W.cell? ⟨b, o + 1, none⟩ = some (.slice a2 x.funcs.length k2) ∧ PrC B W x a1 a2 k1 k2
/-- all that is told of a reading is within reach -/
def Fits {H : Type} (t : TypeId) (d : DataW H) : Prop := ∀ n ∈ d.weights Try.prog t, n ≤ reachBytes
theorem weights_all {H : Type} {e : TypeId} : ∀ {l : List (DataW H)} {d : DataW H}, d ∈ l → ∀ n ∈ d.weights Try.prog e, n ∈ DataW.weightsAll Try.prog e l
  | d0 :: l, d, hd, n, hn => by
    simp only [DataW.weightsAll, List.mem_append]
    rcases List.mem_cons.1 hd with rfl | h
    · exact .inl hn
    · exact .inr (weights_all h n hn)
theorem Fits.len {H : Type} {t e : TypeId} {l r : List (DataW H)} (ht : Try.prog.underlying t = some (.slice e)) (h : Fits t (.slice l r)) (hb : 0 < Try.prog.bytesOf e) : l.length ≤ reachBytes := by
  have := h ((l.length + r.length) * Try.prog.bytesOf e) (by simp [DataW.weights, ht])
  refine Nat.le_trans ?_ this
  exact Nat.le_trans (Nat.le_add_right _ _) (Nat.le_mul_of_pos_right _ hb)
theorem Fits.elem {H : Type} {t e : TypeId} {l r : List (DataW H)} {d : DataW H} (ht : Try.prog.underlying t = some (.slice e)) (h : Fits t (.slice l r)) (hd : d ∈ l) : Fits e d := fun n hn =>
  h n (by simp only [DataW.weights, ht, List.mem_cons, List.mem_append]; exact .inr (.inl (weights_all hd n hn)))
theorem Fits.field {H : Type} {t : TypeId} {fs : Array Field} {xs : List (DataW H × List MemPlace)} {q : List MemPlace} {x y : DataW H × List MemPlace} {i : Nat} {f : Field} (ht : Try.prog.underlying t = some (.struct fs)) (h : Fits t x.1) (hx : x = (.agg (xs.map (·.1)), q)) (hf : fs[i]? = some f) (hy : xs[i]? = some y) : Fits f.type y.1 := fun n hn =>
  h n (by
    subst hx
    simp only [DataW.weights, ht]
    exact DataW.weights_mem_each (j := i) (t := f.type) (d := y.1) (by simp [hf]) (by simp [hy]) n hn)
theorem addr_add (b off n : Nat) : (⟨b, off, none⟩ : Addr).add n = ⟨b, off + n, none⟩ := by simp [Addr.add]
/-- a row of things of c cells, by bytes each -/
structure RowB {α : Type} (c by' : Nat) (Q : World → Nat → Nat → α → Prop) (W : World) (a : Option Addr) (len cap : Nat) (V : Nat → α) : Prop where
  nil : a = none → len = 0 ∧ cap = 0
  le : len ≤ cap
  max : cap ≤ maxLen
  fits : len * by' ≤ reachBytes
  bs : len = 0 ∨ ∃ b off, a = some ⟨b, off, none⟩ ∧ b < W.heap.size ∧ ∀ i, i < len → Q W b (off + i * c) (V i)
theorem Fits.lenB {H : Type} {t e : TypeId} {l r : List (DataW H)} (ht : Try.prog.underlying t = some (.slice e)) (h : Fits t (.slice l r)) : l.length * Try.prog.bytesOf e ≤ reachBytes := by
  have := h ((l.length + r.length) * Try.prog.bytesOf e) (by simp [DataW.weights, ht])
  exact Nat.le_trans (Nat.mul_le_mul_right _ (Nat.le_add_right _ _)) this
/-- numbers -/
def NumC (W : World) (b o : Nat) (z : Int) : Prop := W.cell? ⟨b, o, none⟩ = some (.int .i64 z)
theorem RowB.num {W : World} {a : Option Addr} {len cap : Nat} {V : Nat → Int} (h : RowB 1 8 NumC W a len cap V) : NumIn W.heap.size W a len cap V :=
  ⟨h.le, h.max, by
    rcases h.bs with h0 | ⟨b, off, e, hl, hq⟩
    · exact .inl h0
    · exact .inr ⟨b, off, e, hl, fun i hi => by have := hq i hi; rw [Nat.mul_one] at this; exact this⟩⟩
theorem open_rowL {α : Type} {t e : TypeId} {c by' : Nat} {H : Type} {enc : TypeId × Value → H} {W : World} {spare : Nat → Bool} {held : Bool} {fuel : Nat} {cs : List Value} {x : DataW H × List MemPlace} (Q : Nat → Nat → α → Prop)
    (ht : Try.prog.underlying t = some (.slice e)) (hc : Try.prog.cellsOf e = c) (c0 : 0 < c) (hby : Try.prog.bytesOf e = by') (hs : Fits t x.1)
    (each : ∀ n, n < fuel → ∀ (cs : List Value) (b o : Nat) (y : DataW H × List MemPlace), cs.length = c → b < W.heap.size → (∀ j v, cs[j]? = some v → W.cell? ⟨b, o + j, none⟩ = some v) → DataW.trod enc Try.prog W 0 spare held n e cs = some y → Fits e y.1 → ∃ z : α, Q b o z)
    (h : DataW.trod enc Try.prog W 0 spare held fuel t cs = some x) : ∃ a cap l, cs = [.slice a l.length cap] ∧ RowL c by' (· < W.heap.size) Q a cap l := by
  rcases DataW.trod_slice ht h with ⟨hcs, _⟩ | ⟨a', len, cap, elems, rest, n, hf, hcs, hxx, hb, hl, hm, hlen, hel, _, _⟩
  · exact ⟨none, 0, [], hcs, fun _ => ⟨rfl, rfl⟩, Nat.le_refl _, Nat.zero_le _, by simp, .inl rfl⟩
  · rw [hxx] at hs
    have hfl : len * by' ≤ reachBytes := by have := Fits.lenB ht hs; rw [hby] at this; simpa [hlen] using this
    by_cases h0 : len = 0
    · subst h0
      exact ⟨_, cap, [], hcs, (fun h => by cases h), Nat.zero_le _, hm, by simp, .inl rfl⟩
    have get : ∀ i, i < len → ∃ cs' y, W.cells? 0 (a'.add (i * c)) c = some cs' ∧ DataW.trod enc Try.prog W 0 spare held n e cs' = some y ∧ y ∈ elems := by
      intro i hi
      have := hel i hi
      rw [List.getElem?_eq_getElem (by omega), hc] at this
      obtain ⟨cs', h1, h2⟩ := Option.bind_eq_some_iff.1 this
      exact ⟨cs', _, h1, h2, List.getElem_mem _⟩
    obtain ⟨b, off, spot⟩ := a'
    have h00 : spot = none ∧ b < W.heap.size := by
      obtain ⟨cs', y, h1, h2, _⟩ := get 0 (by omega)
      obtain ⟨_, hlen', hcell⟩ := World.cells?_some h1
      have k0 := hcell 0 (by omega)
      obtain ⟨v, hv⟩ : ∃ v, W.cell? ⟨b, off, spot⟩ = some v := by
        have : W.cell? ⟨b, off, spot⟩ = cs'[0]? := by simpa [Addr.add] using k0
        rw [List.getElem?_eq_getElem (by omega)] at this
        exact ⟨_, this⟩
      exact ⟨World.cell?_spot hv, World.block_lt_of_cell? _ _ hv⟩
    obtain ⟨rfl, hlt⟩ := h00
    have each' : ∀ i, i < len → ∃ z : α, Q b (off + i * c) z := by
      intro i hi
      obtain ⟨cs', y, h1, h2, h3⟩ := get i hi
      obtain ⟨_, hlen', hcell⟩ := World.cells?_some h1
      refine each n (by omega) cs' b (off + i * c) y hlen' hlt (fun j v hv => ?_) h2 (Fits.elem ht hs (List.mem_map.2 ⟨y, h3, rfl⟩))
      have hj : j < c := by rw [← hlen']; exact (List.getElem?_eq_some_iff.1 hv).1
      have k := hcell j hj
      rw [addr_add, addr_add] at k
      exact k.trans hv
    obtain ⟨z0, _⟩ := each' 0 (by omega)
    obtain ⟨f, hff⟩ : ∃ f : Nat → α, ∀ i, i < len → Q b (off + i * c) (f i) :=
      ⟨fun i => if hi : i < len then Classical.choose (each' i hi) else z0, fun i hi => by simp only [dif_pos hi]; exact Classical.choose_spec (each' i hi)⟩
    refine ⟨_, cap, (List.range len).map f, by simpa using hcs, (fun h => by cases h), by simpa using hl, hm, by simpa using hfl, .inr ⟨b, off, rfl, hlt, fun i x hx => ?_⟩⟩
    rw [List.getElem?_map] at hx
    obtain ⟨j, hj, rfl⟩ := Option.map_eq_some_iff.1 hx
    obtain ⟨hi, rfl⟩ : i < len ∧ i = j := by
      have h1 : i < len := by have := (List.getElem?_eq_some_iff.1 hj).1; simpa using this
      rw [List.getElem?_range h1] at hj
      exact ⟨h1, by simpa using hj⟩
    exact hff i hi
theorem open_numL {H : Type} {enc : TypeId × Value → H} {W : World} {spare : Nat → Bool} {held : Bool} {fuel : Nat} {cs : List Value} {x : DataW H × List MemPlace}
    (h : DataW.trod enc Try.prog W 0 spare held fuel 49 cs = some x) (hs : Fits 49 x.1) : ∃ a cap l, cs = [.slice a l.length cap] ∧ NumL (· < W.heap.size) W a cap l := by
  refine open_rowL (NumQ W) Try.underlying49 (c := 1) (by kernel_rfl) (by decide) (by kernel_rfl) hs (fun n hn cs b o y hl hb hc hy hz => ?_) h
  obtain ⟨z, e, _, f⟩ := DataW.trod_int Try.underlying3 hy
  subst e
  exact ⟨z, hc 0 _ rfl⟩
set_option maxRecDepth 100000 in
theorem open_exs {H : Type} {enc : TypeId × Value → H} {W : World} {spare : Nat → Bool} {held : Bool} (fuel : Nat) : ∀ {cs : List Value} {x : DataW H × List MemPlace}
    (h : DataW.trod enc Try.prog W 0 spare held fuel 79 cs = some x) (hs : Fits 79 x.1), ∃ a cap l, cs = [.slice a l.length cap] ∧ ExL (· < W.heap.size) W a cap l := by
  have k1 : Try.prog.cellsOf 3 = 1 := by kernel_rfl
  have k2 : Try.prog.cellsOf 2 = 1 := by kernel_rfl
  have k3 : Try.prog.cellsOf 9 = 1 := by kernel_rfl
  have k4 : Try.prog.cellsOf 79 = 1 := by kernel_rfl
  induction fuel using Nat.strongRecOn with
  | _ fuel ih =>
    intro cs x h hs
    refine open_rowL (ExAt (· < W.heap.size) W) Try.underlying79 (c := 5) (by kernel_rfl) (by decide) (by kernel_rfl) hs (fun n hn cs b o y hl hb hc hy hz => ?_) h
    obtain ⟨xs, kk, hk, hxy, _, hxl, hf⟩ := DataW.trod_struct Try.underlying94 hy
    match xs, hxl, cs, hl with
    | [z0, z1, z2, z3, z4], _, [v0, v1, v2, v3, v4], _ =>
      have g0 := hf 0 _ rfl
      have g1 := hf 1 _ rfl
      have g2 := hf 2 _ rfl
      have g3 := hf 3 _ rfl
      have g4 := hf 4 _ rfl
      simp [k1, k2, k3, k4] at g0 g1 g2 g3 g4
      obtain ⟨n0, e0, _⟩ := DataW.trod_int Try.underlying3 g0
      obtain ⟨n1, e1, _⟩ := DataW.trod_int Try.underlying3 g1
      obtain ⟨n2, e2, _, w2⟩ := DataW.trod_int Try.underlying2 g2
      obtain ⟨s3, e3, d3⟩ := DataW.trod_string Try.underlying9 g3
      have z3' := hz.field Try.underlying94 hxy (i := 3) rfl rfl
      have w3 : s3.size ≤ reachBytes := by
        have := z3' s3.size (by rw [d3.1]; simp [DataW.weights])
        exact this
      have w2 := bounds_i64 w2
      obtain ⟨a4, k4, l4, e4, f4⟩ := ih kk (by omega) g4 (hz.field Try.underlying94 hxy (i := 4) rfl rfl)
      simp at e0 e1 e2 e3 e4
      subst e0 e1 e2 e3 e4
      exact ⟨.mk n0 n1 n2 s3 l4, ExC.at (x := .mk n0 n1 n2 s3 l4) ⟨hc 0 _ rfl, hc 1 _ rfl, hc 2 _ rfl, hc 3 _ rfl, hc 4 _ rfl, by unfold R64; show _ ≤ n2 ∧ n2 ≤ _; omega, w3, f4⟩⟩
set_option maxRecDepth 100000 in
theorem open_sts {H : Type} {enc : TypeId × Value → H} {W : World} {spare : Nat → Bool} {held : Bool} (fuel : Nat) : ∀ {cs : List Value} {x : DataW H × List MemPlace}
    (h : DataW.trod enc Try.prog W 0 spare held fuel 53 cs = some x) (hs : Fits 53 x.1), ∃ a cap l, cs = [.slice a l.length cap] ∧ StL (· < W.heap.size) W a cap l := by
  have k1 : Try.prog.cellsOf 3 = 1 := by kernel_rfl
  have k2 : Try.prog.cellsOf 2 = 1 := by kernel_rfl
  have k3 : Try.prog.cellsOf 49 = 1 := by kernel_rfl
  have k4 : Try.prog.cellsOf 79 = 1 := by kernel_rfl
  have k5 : Try.prog.cellsOf 53 = 1 := by kernel_rfl
  induction fuel using Nat.strongRecOn with
  | _ fuel ih =>
    intro cs x h hs
    refine open_rowL (StAt (· < W.heap.size) W) Try.underlying53 (c := 6) (by kernel_rfl) (by decide) (by kernel_rfl) hs (fun n hn cs b o y hl hb hc hy hz => ?_) h
    obtain ⟨xs, kk, hk, hxy, _, hxl, hf⟩ := DataW.trod_struct Try.underlying81 hy
    match xs, hxl, cs, hl with
    | [z0, z1, z2, z3, z4, z5], _, [v0, v1, v2, v3, v4, v5], _ =>
      have g0 := hf 0 _ rfl
      have g1 := hf 1 _ rfl
      have g2 := hf 2 _ rfl
      have g3 := hf 3 _ rfl
      have g4 := hf 4 _ rfl
      have g5 := hf 5 _ rfl
      simp [k1, k2, k3, k4, k5] at g0 g1 g2 g3 g4 g5
      obtain ⟨n0, e0, _⟩ := DataW.trod_int Try.underlying3 g0
      obtain ⟨n1, e1, _, w1⟩ := DataW.trod_int Try.underlying2 g1
      have w1 := bounds_i64 w1
      obtain ⟨a2, c2, l2, e2, f2⟩ := open_exs kk g2 (hz.field Try.underlying81 hxy (i := 2) rfl rfl)
      obtain ⟨a3, c3, l3, e3, f3⟩ := open_numL g3 (hz.field Try.underlying81 hxy (i := 3) rfl rfl)
      obtain ⟨a4, c4, l4, e4, f4⟩ := ih kk (by omega) g4 (hz.field Try.underlying81 hxy (i := 4) rfl rfl)
      obtain ⟨a5, c5, l5, e5, f5⟩ := ih kk (by omega) g5 (hz.field Try.underlying81 hxy (i := 5) rfl rfl)
      simp at e0 e1 e2 e3 e4 e5
      subst e0 e1 e2 e3 e4 e5
      exact ⟨.mk n0 n1 l2 l3 l4 l5, StC.at (x := .mk n0 n1 l2 l3 l4 l5) ⟨hc 0 _ rfl, hc 1 _ rfl, hc 2 _ rfl, hc 3 _ rfl, hc 4 _ rfl, hc 5 _ rfl, by unfold R64; show _ ≤ n1 ∧ n1 ≤ _; omega, f2, f3, f4, f5⟩⟩
set_option maxRecDepth 100000 in
theorem open_tps {H : Type} {enc : TypeId × Value → H} {W : World} {spare : Nat → Bool} {held : Bool} {fuel : Nat} {cs : List Value} {x : DataW H × List MemPlace}
    (h : DataW.trod enc Try.prog W 0 spare held fuel 24 cs = some x) (hs : Fits 24 x.1) : ∃ a cap l, cs = [.slice a l.length cap] ∧ TpL (· < W.heap.size) W a cap l := by
  have k1 : Try.prog.cellsOf 3 = 1 := by kernel_rfl
  have k3 : Try.prog.cellsOf 49 = 1 := by kernel_rfl
  refine open_rowL (TpAt (· < W.heap.size) W) Try.underlying24 (c := 4) (by kernel_rfl) (by decide) (by kernel_rfl) hs (fun n hn cs b o y hl hb hc hy hz => ?_) h
  obtain ⟨xs, kk, hk, hxy, _, hxl, hf⟩ := DataW.trod_struct Try.underlying51 hy
  match xs, hxl, cs, hl with
  | [z0, z1, z2, z3], _, [v0, v1, v2, v3], _ =>
    have g0 := hf 0 _ rfl
    have g1 := hf 1 _ rfl
    have g2 := hf 2 _ rfl
    have g3 := hf 3 _ rfl
    simp [k1, k3] at g0 g1 g2 g3
    obtain ⟨n0, e0, _⟩ := DataW.trod_int Try.underlying3 g0
    obtain ⟨n1, e1, _⟩ := DataW.trod_int Try.underlying3 g1
    obtain ⟨n2, e2, _⟩ := DataW.trod_int Try.underlying3 g2
    obtain ⟨a3, c3, l3, e3, f3⟩ := open_numL g3 (hz.field Try.underlying51 hxy (i := 3) rfl rfl)
    simp at e0 e1 e2 e3
    subst e0 e1 e2 e3
    exact ⟨⟨n0, n1, n2, l3⟩, a3, c3, hc 0 _ rfl, hc 1 _ rfl, hc 2 _ rfl, hc 3 _ rfl, f3⟩
set_option maxRecDepth 100000 in
theorem open_fns {H : Type} {enc : TypeId × Value → H} {W : World} {spare : Nat → Bool} {held : Bool} {fuel : Nat} {cs : List Value} {x : DataW H × List MemPlace}
    (h : DataW.trod enc Try.prog W 0 spare held fuel 25 cs = some x) (hs : Fits 25 x.1) : ∃ a cap l, cs = [.slice a l.length cap] ∧ FnL (· < W.heap.size) W a cap l := by
  have k1 : Try.prog.cellsOf 3 = 1 := by kernel_rfl
  have k3 : Try.prog.cellsOf 49 = 1 := by kernel_rfl
  have k5 : Try.prog.cellsOf 53 = 1 := by kernel_rfl
  refine open_rowL (FnAt (· < W.heap.size) W) Try.underlying25 (c := 4) (by kernel_rfl) (by decide) (by kernel_rfl) hs (fun n hn cs b o y hl hb hc hy hz => ?_) h
  obtain ⟨xs, kk, hk, hxy, _, hxl, hf⟩ := DataW.trod_struct Try.underlying55 hy
  match xs, hxl, cs, hl with
  | [z0, z1, z2, z3], _, [v0, v1, v2, v3], _ =>
    have g0 := hf 0 _ rfl
    have g1 := hf 1 _ rfl
    have g2 := hf 2 _ rfl
    have g3 := hf 3 _ rfl
    simp [k1, k3, k5] at g0 g1 g2 g3
    obtain ⟨n0, e0, _⟩ := DataW.trod_int Try.underlying3 g0
    obtain ⟨a1, c1, l1, e1, f1⟩ := open_numL g1 (hz.field Try.underlying55 hxy (i := 1) rfl rfl)
    obtain ⟨a2, c2, l2, e2, f2⟩ := open_numL g2 (hz.field Try.underlying55 hxy (i := 2) rfl rfl)
    obtain ⟨a3, c3, l3, e3, f3⟩ := open_sts kk g3 (hz.field Try.underlying55 hxy (i := 3) rfl rfl)
    simp at e0 e1 e2 e3
    subst e0 e1 e2 e3
    exact ⟨⟨n0, l1, l2, l3⟩, a1, a2, a3, c1, c2, c3, hc 0 _ rfl, hc 1 _ rfl, hc 2 _ rfl, hc 3 _ rfl, f1, f2, f3⟩
set_option maxRecDepth 100000 in
theorem open_prs {H : Type} {enc : TypeId × Value → H} {W : World} {spare : Nat → Bool} {held : Bool} {fuel : Nat} {cs : List Value} {x : DataW H × List MemPlace}
    (h : DataW.trod enc Try.prog W 0 spare held fuel 22 cs = some x) (hs : Fits 22 x.1) : ∃ a cap l, cs = [.slice a l.length cap] ∧ RowL 2 48 (· < W.heap.size) (PrAt (· < W.heap.size) W) a cap l := by
  have k1 : Try.prog.cellsOf 24 = 1 := by kernel_rfl
  have k2 : Try.prog.cellsOf 25 = 1 := by kernel_rfl
  refine open_rowL (PrAt (· < W.heap.size) W) Try.underlying22 (c := 2) (by kernel_rfl) (by decide) (by kernel_rfl) hs (fun n hn cs b o y hl hb hc hy hz => ?_) h
  obtain ⟨xs, kk, hk, hxy, _, hxl, hf⟩ := DataW.trod_struct Try.underlying27 hy
  match xs, hxl, cs, hl with
  | [z0, z1], _, [v0, v1], _ =>
    have g0 := hf 0 _ rfl
    have g1 := hf 1 _ rfl
    simp [k1, k2] at g0 g1
    obtain ⟨a0, c0, l0, e0, f0⟩ := open_tps g0 (hz.field Try.underlying27 hxy (i := 0) rfl rfl)
    obtain ⟨a1, c1, l1, e1, f1⟩ := open_fns g1 (hz.field Try.underlying27 hxy (i := 1) rfl rfl)
    simp at e0 e1
    subst e0 e1
    exact ⟨⟨l0, l1⟩, a0, a1, c0, c1, hc 0 _ rfl, hc 1 _ rfl, f0, f1⟩
end Go.Proofs.Ytljdjkiejppenaa
