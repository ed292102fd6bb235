/- Contracts and plain facts that the walks share. -/
import Derived.Test.YtbpdggdpgohilaaG5
import Derived.Test.YtbpdggdpgohilaaG1
namespace Go.Proofs.Ytbpdggdpgohilaa
open Go.RowKit
set_option linter.unusedVariables false
namespace Sa
/-- a value, a block, a function, a program -/
structure Vl where
  op : Int
  kind : Int
  args : List Int
  n : Int
  m : Int
structure Bl where
  kind : Int
  n : Int
  args : List Int
  preds : List Int
  succs : List Int
  list : List Int
structure Cd where
  params : List Int
  results : List Int
  values : List Vl
  blocks : List Bl
structure Un where
  codes : List Cd
  data : List Int
end Sa
/-- bytes in a row -/
def BytQ (W : World) (b o : Nat) (z : Int) : Prop := W.cell? ⟨b, o, none⟩ = some (.int .u8 z)
abbrev BytL (B : Nat → Prop) (W : World) (a : Option Addr) (cap : Nat) (l : List Int) : Prop := RowL 1 1 B (BytQ W) a cap l
theorem BytL.ch {B B' : Nat → Prop} {W W' : World} {l : List Nat} {a : Option Addr} {cap : Nat} {xs : List Int} (h : BytL B W a cap xs) (hg : Ch W W' l) (hl : ∀ k, B k → k ∉ l) (hB : ∀ k, B k → B' k) : BytL B' W' a cap xs := h.mono hB (fun b o x hb _ hx => hg.cell hx (hl b hb))
/-- a value, as it lies -/
structure VlC (B : Nat → Prop) (W : World) (b o : Nat) (x : Sa.Vl) (a : Option Addr) (k : Nat) : Prop where
  c0 : W.cell? ⟨b, o, none⟩ = some (.int .i64 x.op)
  c1 : W.cell? ⟨b, o + 1, none⟩ = some (.int .i64 x.kind)
  c2 : W.cell? ⟨b, o + 2, none⟩ = some (.slice a x.args.length k)
  c3 : W.cell? ⟨b, o + 3, none⟩ = some (.int .i64 x.n)
  c4 : W.cell? ⟨b, o + 4, none⟩ = some (.int .i64 x.m)
  args : NumL B W a k x.args
  rn : R64 x.n
  rm : R64 x.m
def VlAt (B : Nat → Prop) (W : World) (b o : Nat) (x : Sa.Vl) : Prop := ∃ a k, VlC B W b o x a k
abbrev VlL (B : Nat → Prop) (W : World) (a : Option Addr) (cap : Nat) (l : List Sa.Vl) : Prop := RowL 5 56 B (VlAt B W) a cap l
theorem VlC.ch {B B' : Nat → Prop} {W W' : World} {l : List Nat} {b o : Nat} {x : Sa.Vl} {a : Option Addr} {k : Nat} (h : VlC B W b o x a k) (hg : Ch W W' l) (hl : ∀ k, B k → k ∉ l) (hB : ∀ k, B k → B' k) (hb : b ∉ l) : VlC B' W' b o x a k :=
  ⟨hg.cell h.c0 hb, hg.cell h.c1 hb, hg.cell h.c2 hb, hg.cell h.c3 hb, hg.cell h.c4 hb, NumL.ch h.args hg hl hB, h.rn, h.rm⟩
theorem VlL.ch {B B' : Nat → Prop} {W W' : World} {l : List Nat} {a : Option Addr} {cap : Nat} {xs : List Sa.Vl} (h : VlL B W a cap xs) (hg : Ch W W' l) (hl : ∀ k, B k → k ∉ l) (hB : ∀ k, B k → B' k) : VlL B' W' a cap xs := h.mono hB (fun b o x hb _ hx => by
  obtain ⟨a, k, h⟩ := hx
  exact ⟨a, k, h.ch hg hl hB (hl b hb)⟩)
/-- a block, as it lies -/
structure BlC (B : Nat → Prop) (W : World) (b o : Nat) (x : Sa.Bl) (a1 a2 a3 a4 : Option Addr) (k1 k2 k3 k4 : Nat) : Prop where
  c0 : W.cell? ⟨b, o, none⟩ = some (.int .i64 x.kind)
  c1 : W.cell? ⟨b, o + 1, none⟩ = some (.int .i64 x.n)
  c2 : W.cell? ⟨b, o + 2, none⟩ = some (.slice a1 x.args.length k1)
  c3 : W.cell? ⟨b, o + 3, none⟩ = some (.slice a2 x.preds.length k2)
  c4 : W.cell? ⟨b, o + 4, none⟩ = some (.slice a3 x.succs.length k3)
  c5 : W.cell? ⟨b, o + 5, none⟩ = some (.slice a4 x.list.length k4)
  args : NumL B W a1 k1 x.args
  preds : NumL B W a2 k2 x.preds
  succs : NumL B W a3 k3 x.succs
  list : NumL B W a4 k4 x.list
  rn : R64 x.n
def BlAt (B : Nat → Prop) (W : World) (b o : Nat) (x : Sa.Bl) : Prop := ∃ a1 a2 a3 a4 k1 k2 k3 k4, BlC B W b o x a1 a2 a3 a4 k1 k2 k3 k4
abbrev BlL (B : Nat → Prop) (W : World) (a : Option Addr) (cap : Nat) (l : List Sa.Bl) : Prop := RowL 6 112 B (BlAt B W) a cap l
theorem BlC.ch {B B' : Nat → Prop} {W W' : World} {l : List Nat} {b o : Nat} {x : Sa.Bl} {a1 a2 a3 a4 : Option Addr} {k1 k2 k3 k4 : Nat} (h : BlC B W b o x a1 a2 a3 a4 k1 k2 k3 k4) (hg : Ch W W' l) (hl : ∀ k, B k → k ∉ l) (hB : ∀ k, B k → B' k) (hb : b ∉ l) : BlC B' W' b o x a1 a2 a3 a4 k1 k2 k3 k4 :=
  ⟨hg.cell h.c0 hb, hg.cell h.c1 hb, hg.cell h.c2 hb, hg.cell h.c3 hb, hg.cell h.c4 hb, hg.cell h.c5 hb, NumL.ch h.args hg hl hB, NumL.ch h.preds hg hl hB, NumL.ch h.succs hg hl hB, NumL.ch h.list hg hl hB, h.rn⟩
theorem BlL.ch {B B' : Nat → Prop} {W W' : World} {l : List Nat} {a : Option Addr} {cap : Nat} {xs : List Sa.Bl} (h : BlL B W a cap xs) (hg : Ch W W' l) (hl : ∀ k, B k → k ∉ l) (hB : ∀ k, B k → B' k) : BlL B' W' a cap xs := h.mono hB (fun b o x hb _ hx => by
  obtain ⟨a1, a2, a3, a4, k1, k2, k3, k4, h⟩ := hx
  exact ⟨a1, a2, a3, a4, k1, k2, k3, k4, h.ch hg hl hB (hl b hb)⟩)
/-- what a function holds -/
structure CdR (B : Nat → Prop) (W : World) (x : Sa.Cd) (a1 a2 a3 a4 : Option Addr) (k1 k2 k3 k4 : Nat) : Prop where
  params : NumL B W a1 k1 x.params
  results : NumL B W a2 k2 x.results
  values : VlL B W a3 k3 x.values
  blocks : BlL B W a4 k4 x.blocks
theorem CdR.ch {B B' : Nat → Prop} {W W' : World} {l : List Nat} {x : Sa.Cd} {a1 a2 a3 a4 : Option Addr} {k1 k2 k3 k4 : Nat} (h : CdR B W x a1 a2 a3 a4 k1 k2 k3 k4) (hg : Ch W W' l) (hl : ∀ k, B k → k ∉ l) (hB : ∀ k, B k → B' k) : CdR B' W' x a1 a2 a3 a4 k1 k2 k3 k4 :=
  ⟨NumL.ch h.params hg hl hB, NumL.ch h.results hg hl hB, VlL.ch h.values hg hl hB, BlL.ch h.blocks hg hl hB⟩
/-- .. as it is handed over -/
abbrev cdV (x : Sa.Cd) (a1 a2 a3 a4 : Option Addr) (k1 k2 k3 k4 : Nat) : Array Value := #[.slice a1 x.params.length k1, .slice a2 x.results.length k2, .slice a3 x.values.length k3, .slice a4 x.blocks.length k4]
structure CdC (B : Nat → Prop) (W : World) (b o : Nat) (x : Sa.Cd) (a1 a2 a3 a4 : Option Addr) (k1 k2 k3 k4 : Nat) : Prop where
  c0 : W.cell? ⟨b, o, none⟩ = some (.slice a1 x.params.length k1)
  c1 : W.cell? ⟨b, o + 1, none⟩ = some (.slice a2 x.results.length k2)
  c2 : W.cell? ⟨b, o + 2, none⟩ = some (.slice a3 x.values.length k3)
  c3 : W.cell? ⟨b, o + 3, none⟩ = some (.slice a4 x.blocks.length k4)
  r : CdR B W x a1 a2 a3 a4 k1 k2 k3 k4
theorem CdC.ch {B B' : Nat → Prop} {W W' : World} {l : List Nat} {b o : Nat} {x : Sa.Cd} {a1 a2 a3 a4 : Option Addr} {k1 k2 k3 k4 : Nat} (h : CdC B W b o x a1 a2 a3 a4 k1 k2 k3 k4) (hg : Ch W W' l) (hl : ∀ k, B k → k ∉ l) (hB : ∀ k, B k → B' k) (hb : b ∉ l) : CdC B' W' b o x a1 a2 a3 a4 k1 k2 k3 k4 :=
  ⟨hg.cell h.c0 hb, hg.cell h.c1 hb, hg.cell h.c2 hb, hg.cell h.c3 hb, h.r.ch hg hl hB⟩
def CdAt (B : Nat → Prop) (W : World) (b o : Nat) (x : Sa.Cd) : Prop := ∃ a1 a2 a3 a4 k1 k2 k3 k4, CdC B W b o x a1 a2 a3 a4 k1 k2 k3 k4
abbrev CdL (B : Nat → Prop) (W : World) (a : Option Addr) (cap : Nat) (l : List Sa.Cd) : Prop := RowL 4 96 B (CdAt B W) a cap l
theorem CdL.ch {B B' : Nat → Prop} {W W' : World} {l : List Nat} {a : Option Addr} {cap : Nat} {xs : List Sa.Cd} (h : CdL B W a cap xs) (hg : Ch W W' l) (hl : ∀ k, B k → k ∉ l) (hB : ∀ k, B k → B' k) : CdL B' W' a cap xs := h.mono hB (fun b o x hb _ hx => by
  obtain ⟨a1, a2, a3, a4, k1, k2, k3, k4, h⟩ := hx
  exact ⟨a1, a2, a3, a4, k1, k2, k3, k4, h.ch hg hl hB (hl b hb)⟩)
/-- what a program holds -/
structure UnC (B : Nat → Prop) (W : World) (x : Sa.Un) (a1 a2 : Option Addr) (k1 k2 : Nat) : Prop where
  c : CdL B W a1 k1 x.codes
  d : BytL B W a2 k2 x.data
theorem UnC.ch {B B' : Nat → Prop} {W W' : World} {l : List Nat} {x : Sa.Un} {a1 a2 : Option Addr} {k1 k2 : Nat} (h : UnC B W x a1 a2 k1 k2) (hg : Ch W W' l) (hl : ∀ k, B k → k ∉ l) (hB : ∀ k, B k → B' k) : UnC B' W' x a1 a2 k1 k2 := ⟨CdL.ch h.c hg hl hB, BytL.ch h.d hg hl hB⟩
/-- nothing but new blocks -/
theorem NumL.grow1 {B : Nat → Prop} {W W' : World} {a : Option Addr} {k : Nat} {l : List Int} (h : NumL B W a k l) (g : W.grownBy W' none) : NumL B W' a k l := NumL.ch (l := []) h (Ch.of g) (by simp) (fun _ h => h)
theorem VlL.grow {B : Nat → Prop} {W W' : World} {a : Option Addr} {k : Nat} {l : List Sa.Vl} (h : VlL B W a k l) (g : W.grownBy W' none) : VlL B W' a k l := VlL.ch (l := []) h (Ch.of g) (by simp) (fun _ h => h)
theorem BlL.grow {B : Nat → Prop} {W W' : World} {a : Option Addr} {k : Nat} {l : List Sa.Bl} (h : BlL B W a k l) (g : W.grownBy W' none) : BlL B W' a k l := BlL.ch (l := []) h (Ch.of g) (by simp) (fun _ h => h)
theorem CdR.grow {B : Nat → Prop} {W W' : World} {x : Sa.Cd} {a1 a2 a3 a4 : Option Addr} {k1 k2 k3 k4 : Nat} (h : CdR B W x a1 a2 a3 a4 k1 k2 k3 k4) (g : W.grownBy W' none) : CdR B W' x a1 a2 a3 a4 k1 k2 k3 k4 := h.ch (l := []) (Ch.of g) (by simp) (fun _ h => h)
theorem CdL.grow {B : Nat → Prop} {W W' : World} {a : Option Addr} {k : Nat} {l : List Sa.Cd} (h : CdL B W a k l) (g : W.grownBy W' none) : CdL B W' a k l := CdL.ch (l := []) h (Ch.of g) (by simp) (fun _ h => h)
theorem UnC.grow {B : Nat → Prop} {W W' : World} {x : Sa.Un} {a1 a2 : Option Addr} {k1 k2 : Nat} (h : UnC B W x a1 a2 k1 k2) (g : W.grownBy W' none) : UnC B W' x a1 a2 k1 k2 := h.ch (l := []) (Ch.of g) (by simp) (fun _ h => h)
namespace Sa
/-- what is asked first is told first -/
def must (b : Bool) (e : Int) : Except Int Unit := if b then .ok () else .error e
def vl0 : Vl := ⟨0, 0, [], 0, 0⟩
def bl0 : Bl := ⟨0, 0, [], [], [], []⟩
def cd0 : Cd := ⟨[], [], [], []⟩
def Cd.v (c : Cd) (n : Int) : Vl := c.values.getD n.toNat vl0
def Cd.b (c : Cd) (n : Int) : Bl := c.blocks.getD n.toNat bl0
/-- is n a number of so many? -/
def isNum (len : Nat) (n : Int) : Bool := decide (0 ≤ n) && decide (n < (len : Int))
theorem isNum_iff {len : Nat} {n : Int} : isNum len n = true ↔ 0 ≤ n ∧ n < (len : Int) := by unfold isNum; simp
/- ways -/
def isBlk (bs : List Bl) (n : Int) : Bool := isNum bs.length n && (bs.getD n.toNat bl0).kind != 0
def areBlks (bs : List Bl) (l : List Int) : Bool := l.all (isBlk bs)
def wayB (bs : List Bl) (b : Bl) : Bool := (decide (0 ≤ b.kind) && decide (b.kind ≤ 4)) && (b.kind != 0 || b.preds.length + b.succs.length == 0) && (areBlks bs b.preds && areBlks bs b.succs)
def waysB (bs : List Bl) : Bool := (decide (0 < bs.length) && decide (bs.length ≤ 4096)) && bs.all (wayB bs)
/- lists -/
def isVal (c : Cd) (n : Int) : Bool := isNum c.values.length n && (c.v n).op != 0
def areVals (c : Cd) (l : List Int) : Bool := l.all (isVal c)
/-- where values stand -/
structure Ls where
  home : Nat → Int
  spot : Nat → Int
def Ls.put (s : Ls) (n b i : Nat) : Ls := ⟨setF s.home n b, setF s.spot n i⟩
/-- one block's list: is it right, and what is known behind it -/
def lsIn (c : Cd) (b : Nat) : List Int → Nat → Bool → Ls → Bool × Ls
  | [], _, _, s => (true, s)
  | n :: l, i, ph, s =>
    if (isVal c n && s.home n.toNat == -1) && (ph || (c.v n).op != 6) then lsIn c b l (i + 1) ((c.v n).op == 6) (s.put n.toNat b i)
    else (false, s)
def lsAll (c : Cd) : List Bl → Nat → Ls → Bool × Ls
  | [], _, s => (true, s)
  | x :: bs, b, s => if (lsIn c b x.list 0 (b != 0) s).1 then lsAll c bs (b + 1) (lsIn c b x.list 0 (b != 0) s).2 else (false, s)
def ls0 : Ls := ⟨fun _ => -1, fun _ => 0⟩
def lists (c : Cd) : Bool × Ls := lsAll c c.blocks 0 ls0
/- values, ends -/
def hasArgs (u : Un) (c : Cd) (s : Ls) (n : Nat) (v : Vl) : Bool :=
  let k := v.args.length
  if v.op = 1 ∨ v.op = 2 ∨ v.op = 9 ∨ v.op = 16 then k == 0
  else if v.op = 3 ∨ v.op = 5 ∨ v.op = 12 ∨ v.op = 15 then k == 1
  else if v.op = 4 ∨ v.op = 8 ∨ v.op = 11 ∨ v.op = 13 then k == 2
  else if v.op = 7 ∨ v.op = 10 then k == 3
  else if v.op = 17 then k == 1 || k == 2
  else if v.op = 6 then k == (c.b (s.home n)).preds.length
  else if v.op = 14 then isNum u.codes.length v.n && k == (u.codes.getD v.n.toNat cd0).params.length + 1
  else false
def namesN (op : Int) : Bool := !(op == 5 || op == 6 || op == 7 || op == 9 || op == 11 || op == 12 || op == 13)
def valB (u : Un) (c : Cd) (s : Ls) (n : Nat) (v : Vl) : Bool :=
  if v.op = 0 then v.kind == 0 && v.n == 0 && v.m == 0 && v.args.length == 0
  else (s.home n != -1 && areVals c v.args && hasArgs u c s n v) && (v.n == 0 || namesN v.op) && (v.m == 0 || v.op == 17)
def valsB (u : Un) (c : Cd) (s : Ls) : List Vl → Nat → Bool
  | [], _ => true
  | v :: l, n => valB u c s n v && valsB u c s l (n + 1)
def endArgs (c : Cd) (k : Int) : Nat := if k = 2 ∨ k = 4 then 1 else if k = 3 then c.results.length + 1 else 0
def endB (c : Cd) (b : Bl) : Bool := (b.kind != 0 || b.list.length == 0) && (b.args.length == endArgs c b.kind && areVals c b.args) && (if b.kind = 4 then decide (1 ≤ b.n) && decide (b.n ≤ 2147483647) else b.n == 0)
/- flow -/
def exits (k : Int) : Nat := if k = 1 then 1 else if k = 2 then 2 else 0
/-- of a block those that have it among Succs, rising -/
def comes (bs : List Bl) (s : Nat) : List Int := (List.range bs.length).flatMap fun n => ((bs.getD n bl0).succs.filter (· == (s : Int))).map fun _ => (n : Int)
def isSame (rising l : List Int) : Bool := rising.length == l.length && rising == l.mergeSort (fun a b => decide (a ≤ b))
/-- a walk: where blocks stand in it, what it has come to, from where -/
structure Wk where
  rank : Nat → Int
  order : List Int
  parent : List Int
def Wk.on (w : Wk) (b p : Int) : Wk := ⟨setF w.rank b.toNat w.order.length, w.order ++ [b], w.parent ++ [p]⟩
mutual
def visit (bs : List Bl) : Nat → Int → Int → Wk → Wk
  | 0, _, _, w => w
  | f + 1, b, p, w => visits bs f w.order.length (bs.getD b.toNat bl0).succs (w.on b p)
def visits (bs : List Bl) : Nat → Nat → List Int → Wk → Wk
  | _, _, [], w => w
  | f, own, s :: l, w => visits bs f own l (if w.rank s.toNat = -1 then visit bs f s own w else w)
end
def walk (bs : List Bl) : Wk := visit bs bs.length 0 (-1) ⟨fun _ => -1, [], []⟩
def flowB (bs : List Bl) : Bool :=
  (bs.getD 0 bl0).kind != 0 && bs.all (fun b => b.succs.length == exits b.kind) && (List.range bs.length).all (fun n => isSame (comes bs n) (bs.getD n bl0).preds) && (bs.getD 0 bl0).preds.length == 0 && (List.range bs.length).all (fun n => (bs.getD n bl0).kind == 0 || (walk bs).rank n != -1)
/- dominators -/
/-- the walk's tree as far as it is known -/
structure Fo where
  up : Nat → Int
  low : Nat → Int
/-- the least one above n -/
def least : Nat → Int → Int → Fo → Int × Fo
  | 0, n, _, s => (n, s)
  | f + 1, n, known, s =>
    if n ≤ known then (n, s)
    else if s.up n.toNat > known then
      let r := least f (s.up n.toNat) known s
      let low := min (s.low n.toNat) r.1
      (low, ⟨setF r.2.up n.toNat (r.2.up (s.up n.toNat).toNat), setF r.2.low n.toNat low⟩)
    else (s.low n.toNat, s)
def semiIn (w : Wk) (i : Nat) : List Int → Int → Fo → Int × Fo
  | [], m, s => (m, s)
  | p :: l, m, s => semiIn w i l (min m (least (i + w.order.length + 1) (w.rank p.toNat) i s).1) (least (i + w.order.length + 1) (w.rank p.toNat) i s).2
/-- semidominators of the numbers from i down to 1 -/
def semiAll (bs : List Bl) (w : Wk) : Nat → (Nat → Int) → Fo → (Nat → Int)
  | 0, m, _ => m
  | i + 1, m, s =>
    let r := semiIn w (i + 1) (bs.getD (w.order.getD (i + 1) 0).toNat bl0).preds (i + 1 : Nat) s
    semiAll bs w i (setF m (i + 1) r.1) ⟨r.2.up, setF r.2.low (i + 1) r.1⟩
def semis (bs : List Bl) (w : Wk) : Nat → Int := semiAll bs w (w.order.length - 1) (fun _ => 0) ⟨fun i => w.parent.getD i 0, fun _ => 0⟩
def climb (above : Nat → Int) (semi : Int) : Nat → Int → Int
  | 0, a => a
  | f + 1, a => if a > semi then climb above semi f (above a.toNat) else a
def aboveAll (semi : Nat → Int) : Nat → Nat → (Nat → Int) → (Nat → Int)
  | 0, _, a => a
  | k + 1, i, a => aboveAll semi k (i + 1) (setF a i (climb a (semi i) (i + 1) (a i)))
/-- the tree of dominators -/
structure Tr where
  order : List Int
  above : Nat → Int
  first : Nat → Int
  size : Nat → Int
def tops (w : Wk) (a : Nat → Int) : Nat → Nat → (Nat → Int) → (Nat → Int)
  | 0, _, t => t
  | k + 1, i, t => tops w a k (i + 1) (setF t (w.order.getD i 0).toNat (w.order.getD (a i).toNat 0))
def sizes (above : Nat → Int) : List Int → (Nat → Int) → (Nat → Int)
  | [], s => s
  | b :: l, s =>
    let s1 := setF s b.toNat (s b.toNat + 1)
    sizes above l (if b = 0 then s1 else setF s1 (above b.toNat).toNat (s1 (above b.toNat).toNat + s1 b.toNat))
def firsts (above size : Nat → Int) : List Int → (Nat → Int) × (Nat → Int) → (Nat → Int) × (Nat → Int)
  | [], s => s
  | b :: l, (first, free) =>
    let s1 := if b = 0 then (first, free) else (setF first b.toNat (free (above b.toNat).toNat), setF free (above b.toNat).toNat (free (above b.toNat).toNat + size b.toNat))
    firsts above size l (s1.1, setF s1.2 b.toNat (s1.1 b.toNat + 1))
def tree (bs : List Bl) (w : Wk) : Tr :=
  let a := aboveAll (semis bs w) (w.order.length - 1) 1 (fun i => w.parent.getD i 0)
  let ab := setF (tops w a (w.order.length - 1) 1 (fun _ => 0)) 0 (-1)
  let sz := sizes ab w.order.reverse (fun _ => 0)
  ⟨w.order, ab, (firsts ab sz w.order (fun _ => 0, fun _ => 0)).1, sz⟩
def Tr.dom (t : Tr) (a b : Int) : Bool := decide (t.first a.toNat ≤ t.first b.toNat) && decide (t.first b.toNat < t.first a.toNat + t.size a.toNat)
/- kinds -/
def kd (c : Cd) (n : Int) : Int := (c.v n).kind
def isOff (n : Int) : Bool := decide (0 ≤ n) && decide (n ≤ 65536)
def oneOf (kinds : List Int) (v : Vl) : Bool := isNum kinds.length v.n && kinds.getD v.n.toNat 0 == v.kind
def are (c : Cd) (values kinds : List Int) : Bool := values.map (kd c) == kinds
def areMem (c : Cd) (values kinds : List Int) : Bool := kd c (values.getLastD 0) == 12 && are c values.dropLast kinds
def arg (v : Vl) (i : Nat) : Int := v.args.getD i 0
def resFits (u : Un) (c : Cd) (v : Vl) : Bool := (c.v (arg v 0)).op == 14 && oneOf (u.codes.getD (c.v (arg v 0)).n.toNat cd0).results v
def addrFits (c : Cd) (v : Vl) : Bool := (isOff v.n && isOff v.m) && (if v.args.length = 1 then v.m == 0 && are c v.args [11] else are c v.args [11, 9])
def endFits (c : Cd) (b : Bl) : Bool := if b.kind = 2 then are c b.args [1] else if b.kind = 3 then areMem c b.args c.results else if b.kind = 4 then are c b.args [12] else true
/- order -/
def ahead (s : Ls) (t : Tr) (n block place : Int) : Bool := if s.home n.toNat = block then decide (s.spot n.toNat < place) else t.dom (s.home n.toNat) block
def useB (c : Cd) (s : Ls) (t : Tr) (n : Nat) (v : Vl) (i : Nat) (a : Int) : Bool :=
  if v.op = 6 then ahead s t a ((c.b (s.home n)).preds.getD i 0) (c.b ((c.b (s.home n)).preds.getD i 0)).list.length else ahead s t a (s.home n) (s.spot n)
def usesB (c : Cd) (s : Ls) (t : Tr) (n : Nat) (v : Vl) : Bool := (List.range v.args.length).all fun i => useB c s t n v i (v.args.getD i 0)
def orderB (c : Cd) (s : Ls) (t : Tr) : Bool :=
  (List.range c.values.length).all (fun n => usesB c s t n (c.v n)) && (List.range c.blocks.length).all (fun b => (c.b b).args.all fun a => ahead s t a b (c.b b).list.length)
/- memory -/
/-- the memory at a block's beginning, as far as its list tells -/
def beginIn (c : Cd) : List Int → Int → Bool × Int
  | [], m => (true, m)
  | n :: l, m => if (c.v n).op = 9 ∨ ((c.v n).op = 6 ∧ (c.v n).kind = 12) then (if m = -1 then beginIn c l n else (false, m)) else beginIn c l m
def chainIn (c : Cd) : List Int → Int → Bool × Int
  | [], m => (true, m)
  | n :: l, m =>
    if (c.v n).op = 8 then (if (c.v n).args.getLastD 0 = m then chainIn c l m else (false, m))
    else if (c.v n).op = 10 ∨ (c.v n).op = 11 ∨ (c.v n).op = 13 ∨ (c.v n).op = 14 then (if (c.v n).args.getLastD 0 = m then chainIn c l n else (false, m))
    else chainIn c l m
def begins (c : Cd) (t : Tr) (b : Int) (ends : Nat → Int) : Bool × Int :=
  let r := beginIn c (c.b b).list (-1)
  if r.1 then (true, if r.2 = -1 then ends (t.above b.toNat).toNat else r.2) else r
def chain (c : Cd) (b m : Int) : Bool × Int :=
  let r := chainIn c (c.b b).list m
  if r.1 then (if ((c.b b).kind == 3 || (c.b b).kind == 4) && (c.b b).args.getLastD 0 != r.2 then (false, r.2) else r) else r
def memIn (c : Cd) (t : Tr) : List Int → (Nat → Int) × (Nat → Int) → Bool × ((Nat → Int) × (Nat → Int))
  | [], s => (true, s)
  | b :: l, (bg, en) =>
    let r := begins c t b en
    if r.1 then (let q := chain c b r.2
      if q.1 then memIn c t l (setF bg b.toNat r.2, setF en b.toNat q.2) else (false, (setF bg b.toNat r.2, en))) else (false, (bg, en))
def joinB (c : Cd) (s : Ls) (en : Nat → Int) (b m : Int) : Bool :=
  (List.range (c.b b).preds.length).all fun i => (if (c.v m).op = 6 ∧ s.home m.toNat = b then arg (c.v m) i else m) == en ((c.b b).preds.getD i 0).toNat
def memB (c : Cd) (s : Ls) (t : Tr) : Bool :=
  let r := memIn c t t.order (fun _ => 0, fun _ => 0)
  r.1 && t.order.all (fun b => joinB c s r.2.2 b (r.2.1 b.toNat))
end Sa
namespace Sa
/-- how many numbers are not come to -/
def un (g : Nat → Int) : Nat → Nat
  | 0 => 0
  | n + 1 => un g n + (if g n = -1 then 1 else 0)
theorem un_congr {g g' : Nat → Int} : ∀ {n : Nat}, (∀ b, b < n → g b = g' b) → un g n = un g' n
  | 0, _ => rfl
  | n + 1, h => by unfold un; rw [un_congr (n := n) (fun b hb => h b (by omega)), h n (by omega)]
theorem un_set {g : Nat → Int} {b : Nat} {x : Int} (hg : g b = -1) (hx : x ≠ -1) : ∀ {n : Nat}, b < n → un (setF g b x) n + 1 = un g n
  | 0, h => by omega
  | n + 1, h => by
    unfold un
    by_cases e : b = n
    · subst e
      rw [un_congr (g := setF g b x) (g' := g) (fun k hk => by unfold setF; rw [if_neg (by omega)])]
      have h1 : setF g b x b = x := by unfold setF; simp
      rw [h1, if_neg hx, if_pos hg]
    · have h1 := un_set (n := n) hg hx (by omega : b < n)
      have h2 : setF g b x n = g n := by unfold setF; rw [if_neg (by omega)]
      rw [h2]; omega
theorem un_pos {g : Nat → Int} {b : Nat} (hg : g b = -1) : ∀ {n : Nat}, b < n → 1 ≤ un g n
  | 0, h => by omega
  | n + 1, h => by
    unfold un
    by_cases e : b = n
    · subst e; rw [if_pos hg]; omega
    · have := un_pos (n := n) hg (by omega); omega
/-- what is kept -/
structure WkI (n : Nat) (w : Wk) : Prop where
  len : w.order.length = w.parent.length
  ord : ∀ j, j < w.order.length → ∃ b : Nat, b < n ∧ w.order.getD j 0 = b ∧ w.rank b = j
  rk : ∀ b, b < n → w.rank b = -1 ∨ ∃ j : Nat, j < w.order.length ∧ w.rank b = j ∧ w.order.getD j 0 = b
  par : ∀ j, j < w.order.length → -1 ≤ w.parent.getD j 0 ∧ w.parent.getD j 0 < (j : Int) ∧ (0 < j → 0 ≤ w.parent.getD j 0)
  cnt : w.order.length + un w.rank n = n
theorem WkI.le {n : Nat} {w : Wk} (h : WkI n w) : w.order.length ≤ n := by have := h.cnt; omega
theorem WkI.lt {n : Nat} {w : Wk} (h : WkI n w) {b : Nat} (hb : b < n) (hr : w.rank b = -1) : w.order.length < n := by have := h.cnt; have := un_pos hr hb; omega
theorem getD_app {l : List Int} {x : Int} {j : Nat} : (l ++ [x]).getD j 0 = if j < l.length then l.getD j 0 else if j = l.length then x else 0 := by
  simp only [List.getD_eq_getElem?_getD, List.getElem?_append]
  split
  · rfl
  · rename_i h
    by_cases e : j = l.length
    · subst e; simp
    · rw [if_neg e]
      have : j - l.length ≠ 0 := by omega
      cases hk : j - l.length with
      | zero => omega
      | succ k => simp
theorem WkI.on {n : Nat} {w : Wk} (h : WkI n w) {b : Nat} (hb : b < n) (hr : w.rank b = -1) {p : Int} (hp : -1 ≤ p ∧ p < (w.order.length : Int) ∧ (0 < w.order.length → 0 ≤ p)) : WkI n (w.on b p) := by
  have e1 : (w.on b p).order = w.order ++ [(b : Int)] := rfl
  have e2 : (w.on b p).parent = w.parent ++ [p] := rfl
  have e3 : (w.on b p).rank = setF w.rank b w.order.length := by unfold Wk.on; rw [Int.toNat_natCast]
  refine ⟨?_, ?_, ?_, ?_, ?_⟩
  · rw [e1, e2]; simp [h.len]
  · intro j hj
    rw [e1] at hj ⊢
    rw [e3, getD_app]
    rw [List.length_append, List.length_singleton] at hj
    by_cases hjl : j < w.order.length
    · rw [if_pos hjl]
      obtain ⟨q, hq, hq1, hq2⟩ := h.ord j hjl
      refine ⟨q, hq, hq1, ?_⟩
      unfold setF
      rw [if_neg ?_]
      · exact hq2
      · intro e; subst e; rw [hr] at hq2; omega
    · have : j = w.order.length := by omega
      rw [if_neg hjl, if_pos this]
      exact ⟨b, hb, rfl, by unfold setF; simp [this]⟩
  · intro q hq
    rw [e1, e3]
    by_cases e : q = b
    · refine .inr ⟨w.order.length, by simp, by unfold setF; simp [e], ?_⟩
      rw [getD_app, if_neg (by omega), if_pos rfl, e]
    · rcases h.rk q hq with h1 | ⟨j, hj, h1, h2⟩
      · exact .inl (by unfold setF; rw [if_neg e]; exact h1)
      · refine .inr ⟨j, by simp; omega, by unfold setF; rw [if_neg e]; exact h1, ?_⟩
        rw [getD_app, if_pos hj]; exact h2
  · intro j hj
    rw [e1] at hj
    rw [e2, getD_app]
    rw [List.length_append, List.length_singleton] at hj
    rw [← h.len]
    by_cases hjl : j < w.order.length
    · rw [if_pos hjl]; exact h.par j hjl
    · have : j = w.order.length := by omega
      rw [if_neg hjl, if_pos this, this]
      exact hp
  · rw [e1, e3]
    have h1 := un_set (n := n) hr (show (w.order.length : Int) ≠ -1 by omega) hb
    have := h.cnt
    rw [List.length_append, List.length_singleton]
    omega
/-- it goes on from where it stood -/
structure WkX (w w' : Wk) : Prop where
  ord : ∃ l, w'.order = w.order ++ l
  par : ∃ l, w'.parent = w.parent ++ l
theorem WkX.refl (w : Wk) : WkX w w := ⟨⟨[], by simp⟩, ⟨[], by simp⟩⟩
theorem WkX.trans {a b c : Wk} (h : WkX a b) (g : WkX b c) : WkX a c := by
  obtain ⟨⟨l, hl⟩, ⟨m, hm⟩⟩ := h
  obtain ⟨⟨l2, hl2⟩, ⟨m2, hm2⟩⟩ := g
  exact ⟨⟨l ++ l2, by rw [hl2, hl, List.append_assoc]⟩, ⟨m ++ m2, by rw [hm2, hm, List.append_assoc]⟩⟩
theorem WkX.on (w : Wk) (b p : Int) : WkX w (w.on b p) := ⟨⟨[b], rfl⟩, ⟨[p], rfl⟩⟩
theorem WkX.len {a b : Wk} (h : WkX a b) : a.order.length ≤ b.order.length := by obtain ⟨⟨l, hl⟩, _⟩ := h; rw [hl, List.length_append]; omega
/-- where blocks lead to -/
def Leads (bs : List Bl) : Prop := ∀ b : Nat, b < bs.length → ∀ x, x ∈ (bs.getD b bl0).succs → 0 ≤ x ∧ x < (bs.length : Int)
def Keep (bs : List Bl) (f : Nat) : Prop := ∀ (b : Nat) (p : Int) (w : Wk), b < bs.length → w.rank b = -1 → (-1 ≤ p ∧ p < (w.order.length : Int) ∧ (0 < w.order.length → 0 ≤ p)) → WkI bs.length w → WkI bs.length (visit bs f b p w) ∧ WkX w (visit bs f b p w)
theorem visits_keeps {bs : List Bl} {f : Nat} (ih : Keep bs f) {own : Nat} : ∀ {l : List Int} {w : Wk}, (∀ x, x ∈ l → 0 ≤ x ∧ x < (bs.length : Int)) → own < w.order.length → WkI bs.length w → WkI bs.length (visits bs f own l w) ∧ WkX w (visits bs f own l w)
  | [], w, _, _, h => by rw [visits]; exact ⟨h, .refl _⟩
  | s :: l, w, hl, ho, h => by
    rw [visits]
    obtain ⟨h0, h1⟩ := hl s (by simp)
    obtain ⟨k, rfl⟩ : ∃ k : Nat, s = (k : Int) := ⟨s.toNat, by omega⟩
    have hk : k < bs.length := by omega
    rw [Int.toNat_natCast]
    split
    · rename_i hr
      have h2 := ih k own w hk hr ⟨by omega, by omega, by omega⟩ h
      have h3 := visits_keeps ih (l := l) (own := own) (fun x hx => hl x (by simp [hx])) (by have := h2.2.len; omega) h2.1
      exact ⟨h3.1, h2.2.trans h3.2⟩
    · exact visits_keeps ih (l := l) (own := own) (fun x hx => hl x (by simp [hx])) ho h
theorem visit_keeps {bs : List Bl} (hs : Leads bs) : ∀ f, Keep bs f
  | 0 => fun b p w _ _ _ h => by rw [visit]; exact ⟨h, .refl _⟩
  | f + 1 => fun b p w hb hr hp h => by
    rw [visit]
    have h1 := h.on hb hr hp
    rw [Int.toNat_natCast]
    have h2 := visits_keeps (visit_keeps hs f) (own := w.order.length) (l := (bs.getD b bl0).succs) (hs b hb) (by show _ < (w.order ++ [(b : Int)]).length; simp) h1
    exact ⟨h2.1, (WkX.on w b p).trans h2.2⟩
def wk0 : Wk := ⟨fun _ => -1, [], []⟩
theorem un0 : ∀ n, un (fun _ => -1) n = n
  | 0 => rfl
  | n + 1 => by unfold un; rw [un0 n]; simp
theorem wk0_ok (n : Nat) : WkI n wk0 := ⟨rfl, fun j hj => by simp [wk0] at hj, fun b hb => .inl rfl, fun j hj => by simp [wk0] at hj, by unfold wk0; rw [un0]; simp⟩
theorem walk_eq (bs : List Bl) : walk bs = visit bs bs.length 0 (-1) wk0 := rfl
theorem walk_ok {bs : List Bl} (hs : Leads bs) (h0 : 0 < bs.length) : WkI bs.length (walk bs) := ((visit_keeps hs bs.length) 0 (-1) wk0 h0 rfl ⟨by omega, by simp [wk0], by simp [wk0]⟩ (wk0_ok _)).1
theorem walk_first {bs : List Bl} (hs : Leads bs) (h0 : 0 < bs.length) : 0 < (walk bs).order.length ∧ (walk bs).order.getD 0 0 = 0 ∧ (walk bs).parent.getD 0 0 = -1 := by
  obtain ⟨f, hf⟩ : ∃ f, bs.length = f + 1 := ⟨bs.length - 1, by omega⟩
  have h1 : WkI bs.length (wk0.on 0 (-1)) := (wk0_ok _).on (b := 0) h0 rfl ⟨by omega, by simp [wk0], by simp [wk0]⟩
  have h2 := visits_keeps (visit_keeps hs f) (own := 0) (l := (bs.getD 0 bl0).succs) (hs 0 h0) (by simp [wk0, Wk.on]) h1
  have e : walk bs = visits bs f 0 (bs.getD 0 bl0).succs (wk0.on 0 (-1)) := by rw [walk_eq, hf, visit]; rfl
  obtain ⟨⟨l, hl⟩, ⟨m, hm⟩⟩ := h2.2
  have hl2 : (walk bs).order = 0 :: l := by rw [e, hl]; rfl
  have hm2 : (walk bs).parent = -1 :: m := by rw [e, hm]; rfl
  rw [hl2, hm2]
  exact ⟨by simp, rfl, rfl⟩
end Sa
/-- a block's whole row -/
def Bk (w : World) (B : Nat) (t : TypeId) (l : List Value) : Prop := w.heap[B]? = some (.cells l.toArray t)
theorem Bk.cell {w : World} {B : Nat} {t : TypeId} {l : List Value} (h : Bk w B t l) {i : Nat} {v : Value} (hv : l[i]? = some v) : w.cell? ⟨B, i, none⟩ = some v := by
  unfold Bk at h
  simp [World.cell?, h, hv]
theorem Bk.frozen {w : World} {B : Nat} {t : TypeId} {l : List Value} (h : Bk w B t l) (i : Nat) : w.frozen? ⟨B, i, none⟩ = false := by
  unfold Bk at h
  simp [World.frozen?, h]
theorem Bk.lt {w : World} {B : Nat} {t : TypeId} {l : List Value} (h : Bk w B t l) : B < w.heap.size := (Array.getElem?_eq_some_iff.1 h).1
theorem Bk.ch {w w' : World} {B : Nat} {t : TypeId} {l : List Value} {m : List Nat} (h : Bk w B t l) (g : Ch w w' m) (hB : B ∉ m) : Bk w' B t l := (g.block B h.lt hB).trans h
theorem Bk.grow {w w' : World} {B : Nat} {t : TypeId} {l : List Value} (h : Bk w B t l) (g : w.grownBy w' none) : Bk w' B t l := h.ch (m := []) (Ch.of g) (by simp)
theorem Bk.new (w : World) (t : TypeId) (l : List Value) : Bk (w.alloc (.cells l.toArray t)) w.heap.size t l := by
  show (w.heap.push _)[w.heap.size]? = _
  simp
theorem Bk.set {w : World} {B : Nat} {t : TypeId} {l : List Value} (h : Bk w B t l) (i : Nat) (v : Value) : Bk (w.setCell ⟨B, i, none⟩ v) B t (l.set i v) := by
  unfold Bk at h ⊢
  simp [World.setCell, Array.getElem?_modify, h]
/-- three cells stored -/
def put3 (w : World) (B : Nat) (x y z : Value) : World := ((w.setCell ⟨B, 0, none⟩ x).setCell ⟨B, 1, none⟩ y).setCell ⟨B, 2, none⟩ z
theorem Bk.put3 {w : World} {B : Nat} {t : TypeId} {a b c : Value} (h : Bk w B t [a, b, c]) (x y z : Value) : Bk (put3 w B x y z) B t [x, y, z] := ((h.set 0 x).set 1 y).set 2 z
theorem ch_put3 (w : World) (B : Nat) (x y z : Value) : Ch w (put3 w B x y z) [B] := ((Ch.one (grown_set _ _ _ _) (by simp)).trans (Ch.one (grown_set _ _ _ _) (by simp))).trans (Ch.one (grown_set _ _ _ _) (by simp))
end Go.Proofs.Ytbpdggdpgohilaa
namespace Go.Proofs.Ytbpdggdpgohilaa
open Go.RowKit
set_option linter.unusedVariables false
set_option maxRecDepth 100000
set_option maxHeartbeats 4000000
/-- a fault of ssa's -/
abbrev saF (n : Int) : Ending := .panicked [{ v := .iface 84 (.agg #[.int .i64 n]), recovered := false }]
theorem saMust_any (b : Bool) (e : Int) (w : World) : Calls Try.prog 46 #[.bool b, .int .i64 e] w fun r w' => r = (bif b then .returned (.tuple #[]) else saF e) ∧ w' = w := by
  cases b
  · go_enter Try.func46, Try.ntmps46
    go_wp2
    exact ⟨rfl, rfl, rfl⟩
  · go_enter Try.func46, Try.ntmps46
    go_wp2
    go_end0
    exact ⟨rfl, rfl⟩
theorem saNum_any (many : Nat) (x : Int) (w : World) : Calls Try.prog 56 #[.int .i64 (many : Int), .int .i64 x] w fun r w' => r = .returned (.bool (Sa.isNum many x)) ∧ w' = w := by
  unfold Sa.isNum
  by_cases h1 : 0 ≤ x <;> by_cases h2 : x < (many : Int)
  all_goals
    go_enter Try.func56, Try.ntmps56
    go_wp2
    go_ret
    exact ⟨by simp [h1, h2], rfl⟩
theorem saExits_any (k : Int) (w : World) : Calls Try.prog 48 #[.int .i64 k] w fun r w' => r = .returned (.int .i64 (Sa.exits k : Int)) ∧ w' = w := by
  unfold Sa.exits
  by_cases h1 : k = 1
  · have d1 : (k == 1) = true := by simpa using h1
    rw [if_pos h1]
    clear h1
    go_enter Try.func48, Try.ntmps48
    go_wp2
    go_ret
    exact ⟨rfl, rfl⟩
  have d1 : (k == 1) = false := by simpa using h1
  rw [if_neg h1]
  by_cases h2 : k = 2
  · have d2 : (k == 2) = true := by simpa using h2
    rw [if_pos h2]
    clear h1 h2
    go_enter Try.func48, Try.ntmps48
    go_wp2
    go_ret
    exact ⟨rfl, rfl⟩
  have d2 : (k == 2) = false := by simpa using h2
  rw [if_neg h2]
  clear h1 h2
  go_enter Try.func48, Try.ntmps48
  go_wp2
  go_ret
  exact ⟨rfl, rfl⟩
theorem saBlk_idx {B : Nat → Prop} {w : World} {a : Option Addr} {c : Nat} {l : List Int} {p : Int → Bool} {nb : Nat} (hl : NumL B w a c l) (hp : ∀ x, x ∈ l → ∀ W, w.grownBy W none → Calls Try.prog 55 #[.int .i64 x, .pointer (some ⟨nb, 0, none⟩)] W fun r w' => r = .returned (.bool (p x)) ∧ W.grownBy w' none) : Calls Try.prog 61 #[.slice a l.length c, .func (.func 55) #[] #[.pointer (some ⟨nb, 0, none⟩)]] w fun r w' => ∃ q : Int, r = .returned (.int .i64 q) ∧ w.grownBy w' none ∧ decide (0 ≤ q) = l.any p := by
  have hle := hl.le
  have hmx := hl.max
  unfold maxLen at hmx
  have HL : Hid (∀ W, w.grownBy W none → NumL B W a c l) := fun W g => NumL.grow1 hl g
  have HP : Hid (∀ x, x ∈ l → ∀ W, w.grownBy W none → Calls Try.prog 55 #[.int .i64 x, .pointer (some ⟨nb, 0, none⟩)] W fun r w' => r = .returned (.bool (p x)) ∧ W.grownBy w' none) := hp
  clear hl hp
  go_enter Try.func61, Try.ntmps61
  go_wp2_with fail
  go_loopw [8] (fun ix wr => ∃ k : Nat, ix = .int .i64 k ∧ k ≤ l.length ∧ (l.take k).any p = false ∧ w.grownBy wr none) (fun ix _ => l.length - (intOf ix).toNat)
  case atStart => exact ⟨0, rfl, Nat.zero_le _, rfl, World.grownBy.refl _ _⟩
  case round =>
    obtain ⟨k, rfl, hk, ha, hg⟩ := hrel
    have HA : Hid ((l.take k).any p = false) := ha
    have HG : Hid (w.grownBy wr none) := hg
    clear ha hg
    by_cases hkn : k < l.length
    · have hkn' : (k : Int) < l.length := by omega
      obtain ⟨b, o, rfl, _, hx⟩ := (HL.out wr HG.out).at hkn
      unfold NumQ at hx
      rw [Nat.mul_one] at hx
      have HC := HP.out l[k] (List.getElem_mem hkn) wr HG.out
      have HT : Hid (p l[k] = true → l.any p = true) := fun h => List.any_eq_true.2 ⟨_, List.getElem_mem hkn, h⟩
      have HF : Hid (p l[k] = false → (l.take (k + 1)).any p = false) := fun h => by rw [List.take_succ_eq_append_getElem hkn, List.any_append, HA.out]; simp [h]
      generalize l[k] = x at *
      cases hv : p x
      · rw [hv] at HC
        have HV : Hid (p x = false) := hv
        have HC2 : Hid (Calls Try.prog 55 #[.int .i64 x, .pointer (some ⟨nb, 0, none⟩)] wr fun r w' => r = .returned (.bool false) ∧ wr.grownBy w' none) := HC
        clear HC hv
        go_wp2_with (go_at_call 55; refine HC2.out.mono ?_; rintro e w4 ⟨rfl, hg4⟩; have HG4 : Hid (w.grownBy w4 none) := grown_trans HG.out hg4; clear hg4)
        go_roundw
        case rel => exact ⟨k + 1, by go_num, by omega, HF.out HV.out, HG4.out⟩
        case measure => simp [intOf]; omega
      · rw [hv] at HC
        have HV : Hid (p x = true) := hv
        have HC2 : Hid (Calls Try.prog 55 #[.int .i64 x, .pointer (some ⟨nb, 0, none⟩)] wr fun r w' => r = .returned (.bool true) ∧ wr.grownBy w' none) := HC
        clear HC hv
        go_wp2_with (go_at_call 55; refine HC2.out.mono ?_; rintro e w4 ⟨rfl, hg4⟩; have HG4 : Hid (w.grownBy w4 none) := grown_trans HG.out hg4; clear hg4)
        go_ret
        exact ⟨_, rfl, HG4.out, by rw [HT.out HV.out]; simp⟩
    · obtain rfl : k = l.length := by omega
      go_wp2
      go_ret
      have e1 := HA.out
      rw [List.take_length] at e1
      exact ⟨_, rfl, HG.out, by rw [e1]; rfl⟩
theorem saBlk_con {B : Nat → Prop} {w : World} {a : Option Addr} {c : Nat} {l : List Int} {p : Int → Bool} {nb : Nat} (hl : NumL B w a c l) (hp : ∀ x, x ∈ l → ∀ W, w.grownBy W none → Calls Try.prog 55 #[.int .i64 x, .pointer (some ⟨nb, 0, none⟩)] W fun r w' => r = .returned (.bool (p x)) ∧ W.grownBy w' none) : Calls Try.prog 54 #[.slice a l.length c, .func (.func 55) #[] #[.pointer (some ⟨nb, 0, none⟩)]] w fun r w' => r = .returned (.bool (l.any p)) ∧ w.grownBy w' none := by
  have HI : Hid (Calls Try.prog 61 #[.slice a l.length c, .func (.func 55) #[] #[.pointer (some ⟨nb, 0, none⟩)]] w fun r w' => ∃ q : Int, r = .returned (.int .i64 q) ∧ w.grownBy w' none ∧ decide (0 ≤ q) = l.any p) := saBlk_idx hl hp
  clear hl hp
  generalize l.any p = z at *
  go_enter Try.func54, Try.ntmps54
  go_wp2_with (go_at_call 61; refine HI.out.mono ?_; rintro e w3 ⟨q, rfl, hg3, hq⟩; have HG3 : Hid (w.grownBy w3 none) := hg3; clear hg3)
  go_ret
  exact ⟨by rw [← hq]; first | rfl | simp, HG3.out⟩
theorem all_not_any (p : Int → Bool) (l : List Int) : (!l.any fun x => !p x) = l.all p := by
  induction l with
  | nil => rfl
  | cons x l ih => rw [List.any_cons, List.all_cons, ← ih]; cases p x <;> simp
/-- where the reader's rows lie -/
structure RdA where
  ca : Option Addr
  cc : Nat
  da : Option Addr
  dc : Nat
  pa : Option Addr
  pc : Nat
  ra : Option Addr
  rc : Nat
  va : Option Addr
  vc : Nat
  ba : Option Addr
  bc : Nat
  hm : Value
  sp : Value
  to : Value
  ta : Value
  tf : Value
  ts : Value
def rdRow (u : Sa.Un) (c : Sa.Cd) (A : RdA) : List Value := [.slice A.ca u.codes.length A.cc, .slice A.da u.data.length A.dc, .slice A.pa c.params.length A.pc, .slice A.ra c.results.length A.rc, .slice A.va c.values.length A.vc, .slice A.ba c.blocks.length A.bc, A.hm, A.sp, A.to, A.ta, A.tf, A.ts]
theorem Sa.isVal_iff {c : Sa.Cd} {n : Int} : Sa.isVal c n = true ↔ (0 ≤ n ∧ n < (c.values.length : Int)) ∧ (c.v n).op ≠ 0 := by unfold Sa.isVal; rw [Bool.and_eq_true, Sa.isNum_iff]; simp
/-- a value by its number -/
theorem VlL.num {B : Nat → Prop} {w : World} {a : Option Addr} {k : Nat} {c : Sa.Cd} (h : VlL B w a k c.values) {n : Nat} (hn : n < c.values.length) : ∃ b o q cq, a = some ⟨b, o, none⟩ ∧ B b ∧ VlC B w b (o + n * 5) (c.v n) q cq := by
  obtain ⟨b, o, e, hb, q, cq, h⟩ := h.at hn
  refine ⟨b, o, q, cq, e, hb, ?_⟩
  rw [show c.v (n : Int) = c.values[n] by unfold Sa.Cd.v; simp [List.getD_eq_getElem?_getD, hn]]
  exact h
theorem BlL.num {B : Nat → Prop} {w : World} {a : Option Addr} {k : Nat} {l : List Sa.Bl} (h : BlL B w a k l) {n : Nat} (hn : n < l.length) : ∃ b o a1 a2 a3 a4 k1 k2 k3 k4, a = some ⟨b, o, none⟩ ∧ B b ∧ BlC B w b (o + n * 6) (l.getD n Sa.bl0) a1 a2 a3 a4 k1 k2 k3 k4 := by
  obtain ⟨b, o, e, hb, a1, a2, a3, a4, k1, k2, k3, k4, h⟩ := h.at hn
  refine ⟨b, o, a1, a2, a3, a4, k1, k2, k3, k4, e, hb, ?_⟩
  rw [show l.getD n Sa.bl0 = l[n] by simp [List.getD_eq_getElem?_getD, hn]]
  exact h
end Go.Proofs.Ytbpdggdpgohilaa
