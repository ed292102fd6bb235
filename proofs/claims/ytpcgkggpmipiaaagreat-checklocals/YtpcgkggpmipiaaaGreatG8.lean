/- Contracts and plain facts that the walks share. -/
import Derived.Test.YtpcgkggpmipiaaaGreatG1
import Derived.Test.YtpcgkggpmipiaaaGreatG7
namespace Go.Proofs.YtpcgkggpmipiaaaGreat
open Go.RowKit
set_option linter.unusedVariables false
namespace Ck
structure En where
 T : Nat → Ty.TyV
 n : Nat
 fs : List Pg.Fn
 f : Pg.Fn
def kd (c : En) (i : Int) : Int := (c.T i.toNat).kind
def el (c : En) (i : Int) : Int := (c.T i.toNat).elem
def fd (c : En) (i : Int) : List Int := (List.range (c.T i.toNat).nf).map (c.T i.toNat).F
def ent (c : En) (i : Int) : Bool := Ty.nmB c.n i
def val (c : En) (i : Int) : Bool := Ty.nmB c.n i && Ty.valB (Ty.lie c.T i.toNat)
def intK (c : En) (i : Int) : Bool := decide (2 ≤ kd c i) && decide (kd c i ≤ 9)
def plainK (c : En) (i : Int) : Bool := decide (1 ≤ kd c i) && decide (kd c i ≤ 10)
def listK (c : En) (i : Int) : Bool := (kd c i == 14) || (kd c i == 15)
def ptr (c : En) (i to : Int) : Bool := (kd c i == 11) && (el c i == to)
def must (b : Bool) (e : Int) : Except Int Unit := if b then .ok () else .error e
def trow (op n : Int) : Option (Bool × Bool × Bool × Int) :=
 if op = 1 then some (true, true, false, 0)
 else if op = 2 then some (true, false, true, 0)
 else if op = 3 then some (true, false, false, 0)
 else if op = 4 then some (false, true, false, 0)
 else if op = 5 then (if 1 ≤ n ∧ n ≤ 3 then some (false, true, false, 1) else none)
 else if op = 6 then (if 1 ≤ n ∧ n ≤ 10 then some (false, true, false, 2) else if 11 ≤ n ∧ n ≤ 16 then some (true, true, false, 2) else none)
 else if op = 7 ∨ op = 8 then some (false, false, false, 2)
 else if op = 9 then some (true, false, false, 1)
 else if op = 10 then some (false, true, false, 1)
 else if op = 11 then some (true, false, false, -1)
 else if op = 12 then some (false, false, false, 1)
 else if op = 13 then some (true, true, false, 1)
 else if op = 14 ∨ op = 15 then some (true, false, false, 2)
 else if op = 16 then some (true, false, false, 1)
 else if op = 17 then some (false, false, false, 3)
 else if op = 18 then some (true, false, false, 0)
 else if op = 19 then some (true, false, false, 1)
 else none
def pre (c : En) (op t n : Int) (sz : Nat) (k : Nat) : Except Int Unit :=
 match trow op n with
 | none => .error 97
 | some (pT, pN, pS, m) => do
  must ((t == 0 || pT) && (n == 0 || pN) && (sz == 0 || pS)) 97
  must (m == -1 || m == k) 94
  must (!pT || ent c t) 93
def fld (c : En) (i n : Int) : Except Int Int := do
 must (kd c i == 13) 93
 must (Ty.nmB (c.T i.toNat).nf n) 96
 .ok ((c.T i.toNat).F n.toNat)
def ask (c : En) (op t n : Int) (l : List Int) : Except Int Int :=
 let a := l.getD 0 0
 let b := l.getD 1 0
 if op = 1 then do must (plainK c t) 93; must (Wd.isB (kd c t) (n % 18446744073709551616)) 95; .ok t
 else if op = 2 then do must (kd c t == 15) 93; .ok t
 else if op = 3 then do must (kd c t == 11 || kd c t == 14) 93; .ok t
 else if op = 4 then do must (Ty.nmB c.f.locals.length n) 92; .ok (c.f.locals.getD n.toNat 0)
 else if op = 5 then do must (Wd.hasUnB n (kd c a)) 97; .ok a
 else if op = 6 then
  if n = 9 ∨ n = 10 then do must (intK c a && intK c b) 93; .ok a
  else if n ≤ 8 then do must (a == b) 93; must (Wd.hasBinB n (kd c a)) 97; .ok a
  else do must (kd c t == 1 && a == b) 93; must (Wd.hasBinB n (kd c a)) 97; .ok t
 else if op = 7 ∨ op = 8 then do must (kd c a == 1 && a == b) 93; .ok a
 else if op = 9 then do must (Wd.numB (kd c a) && Wd.numB (kd c t)) 93; .ok t
 else if op = 10 then fld c a n
 else if op = 11 then do must (kd c t == 13 && val c t) 93; must (l.length == (c.T t.toNat).nf) 94; must (l == fd c t) 93; .ok t
 else if op = 12 then do must (kd c a == 11 && val c (el c a)) 93; .ok (el c a)
 else if op = 13 then do must (kd c a == 11) 93; let f ← fld c (el c a) n; must (ptr c t f) 93; .ok t
 else if op = 14 then do
  must ((if kd c a = 11 then kd c (el c a) == 12 else kd c a == 14) && intK c b && ptr c t (if kd c a = 11 then el c (el c a) else el c a)) 93
  .ok t
 else if op = 15 then do must (kd c a == 15 && intK c b && kd c t == 6) 93; .ok t
 else if op = 16 then do must (listK c a && kd c t == 5) 93; .ok t
 else if op = 17 then do must (listK c a && intK c b && intK c (l.getD 2 0)) 93; .ok a
 else if op = 18 then do must (kd c t == 11) 93; .ok t
 else do must (kd c t == 14 && intK c a) 93; .ok t
mutual
def tm (c : En) : Pg.Ex → Except Int Int
 | .mk op t n s args => do
  pre c op t n s.size args.length
  let l ← tms c args
  ask c op t n l
def tms (c : En) : List Pg.Ex → Except Int (List Int)
 | [] => .ok []
 | x :: xs => do
  let a ← tm c x
  let l ← tms c xs
  .ok (a :: l)
end
def srow (op : Int) : Option (Bool × Bool × Bool × Bool × Int) :=
 if op = 1 then some (true, false, false, false, 1)
 else if op = 2 then some (false, false, false, false, 2)
 else if op = 3 then some (false, false, true, true, 1)
 else if op = 4 then some (false, false, true, false, 0)
 else if op = 5 ∨ op = 6 then some (true, false, false, false, 0)
 else if op = 7 then some (false, false, false, false, -1)
 else if op = 8 then some (false, false, false, false, 1)
 else if op = 9 then some (true, false, false, false, 0)
 else if op = 10 then some (true, true, false, false, -1)
 else none
def spre (op n : Int) (k d a b : Nat) : Except Int Unit :=
 match srow op with
 | none => .error 97
 | some (pN, pD, pA, pB, m) => do
  must ((n == 0 || pN) && (d == 0 || pD) && (a == 0 || pA) && (b == 0 || pB)) 97
  must (m == -1 || m == k) 94
def locs (c : En) : List Int → List Int → Bool
 | _, [] => true
 | had, x :: l => Ty.nmB c.f.locals.length x && !had.contains x && locs c (had ++ [x]) l
def cal (c : En) (n : Int) (dst l : List Int) : Except Int Unit := do
 must (Ty.nmB c.fs.length n) 91
 let g := c.fs.getD n.toNat ⟨0, [], [], []⟩
 must ((l.length : Int) == g.params && dst.length == g.results.length) 94
 must (l == g.locals.take g.params.toNat) 93
 must (locs c [] dst) 92
 must (dst.map (fun x => c.f.locals.getD x.toNat 0) == g.results) 93
def sask (c : En) (loops : Nat) (op n : Int) (dst l : List Int) : Except Int Unit :=
 let a := l.getD 0 0
 if op = 1 then do must (Ty.nmB c.f.locals.length n) 92; must (c.f.locals.getD n.toNat 0 == a) 93
 else if op = 2 then must (ptr c a (l.getD 1 0)) 93
 else if op = 3 then must (kd c a == 1) 93
 else if op = 4 then .ok ()
 else if op = 5 ∨ op = 6 then must (Ty.nmB loops n) 98
 else if op = 7 then do must (l.length == c.f.results.length) 94; must (l == c.f.results) 93
 else if op = 8 then must (plainK c a) 93
 else if op = 9 then must (Ty.nmB 256 n) 95
 else cal c n dst l
mutual
def sm (c : En) (loops : Nat) : Pg.St → Except Int Unit
 | .mk op n args dst a b => do
  spre op n args.length dst.length a.length b.length
  let l ← tms c args
  sask c loops op n dst l
  sms c (if op = 4 then loops + 1 else loops) a
  sms c (if op = 4 then loops + 1 else loops) b
def sms (c : En) (loops : Nat) : List Pg.St → Except Int Unit
 | [] => .ok ()
 | x :: l => do
  sm c loops x
  sms c loops l
end
mutual
def lv (n : Int) : Pg.St → Bool
 | .mk op m _ _ a b => if op = 5 then m == n else if op = 4 then lvs (n + 1) a else lvs n a || lvs n b
def lvs (n : Int) : List Pg.St → Bool
 | [] => false
 | x :: l => lv n x || lvs n l
end
mutual
def en : Pg.St → Bool
 | .mk op _ _ _ a b => if op = 7 ∨ op = 9 ∨ op = 5 ∨ op = 6 then true else if op = 3 then ens a && ens b else if op = 4 then !lvs 0 a else false
def ens : List Pg.St → Bool
 | [] => false
 | x :: l => en x || ens l
end
def head (c : En) (f : Pg.Fn) : Except Int Unit := do
 must (decide (f.locals.length ≤ 32)) 92
 must (decide (0 ≤ f.params) && decide (f.params ≤ f.locals.length) && decide (f.params ≤ 8)) 92
 must (f.locals.all (ent c)) 92
 must (f.locals.all (val c)) 93
 must (decide (f.results.length ≤ 8)) 94
 must (f.results.all (val c)) 93
def first (c : En) (f : Pg.Fn) : Except Int Unit := do
 must (f.results.length == 1 && kd c (f.results.getD 0 0) == 5) 91
 must (decide (f.params ≤ 6) && (f.locals.take f.params.toNat).all (plainK c)) 91
def heads (c : En) : Bool → List Pg.Fn → Except Int Unit
 | _, [] => .ok ()
 | z, f :: l => do
  head c f
  if z then first c f
  heads c false l
def bodies (c : En) : List Pg.Fn → Except Int Unit
 | [] => .ok ()
 | f :: l => do
  sms { c with f := f } 0 f.body
  must (ens f.body) 99
  bodies c l
end Ck
end Go.Proofs.YtpcgkggpmipiaaaGreat
namespace Go.Proofs.YtpcgkggpmipiaaaGreat
set_option maxRecDepth 100000
set_option maxHeartbeats 32000000
open Go.RowKit
set_option linter.unusedVariables false
structure LiAt (w : World) (b o : Nat) (l : Ty.Li) : Prop where
 c0 : w.cell? ⟨b, o, none⟩ = some (.int .i64 l.size)
 c1 : w.cell? ⟨b, o + 1, none⟩ = some (.int .i64 l.align)
 c2 : w.cell? ⟨b, o + 2, none⟩ = some (.int .i64 l.words)
 c3 : w.cell? ⟨b, o + 3, none⟩ = some (.bool l.arr)
theorem LiAt.ch {w w' : World} {b o : Nat} {x : Ty.Li} {l : List Nat} (h : LiAt w b o x) (hg : Ch w w' l) (hb : b ∉ l) : LiAt w' b o x :=
 ⟨hg.cell h.c0 hb, hg.cell h.c1 hb, hg.cell h.c2 hb, hg.cell h.c3 hb⟩
theorem frozen_ch {w w' : World} {l : List Nat} (h : Ch w w' l) {b k : Nat} (hlt : b < w.heap.size) (hb : b ∉ l) (hf : w.frozen? ⟨b, k, none⟩ = false) : w'.frozen? ⟨b, k, none⟩ = false := by
 rw [← hf]
 simp only [World.frozen?, h.block b hlt hb]
structure Ak (N : Nat) (w : World) (T : Nat → Ty.TyV) (n : Nat) (a : Option Addr) (c bf bt ba F : Nat) : Prop where
 cf : w.cell? ⟨bf, 0, none⟩ = some (.slice (some ⟨F, 0, none⟩) n n)
 ct : w.cell? ⟨bt, 0, none⟩ = some (.slice a n c)
 ca : w.cell? ⟨ba, 0, none⟩ = some (.func (.func 216) #[] #[.pointer (some ⟨bf, 0, none⟩), .pointer (some ⟨bt, 0, none⟩), .pointer (some ⟨ba, 0, none⟩)])
 fz : ∀ k, w.frozen? ⟨F, k, none⟩ = false
 lt : F < w.heap.size
 lie : ∀ i, i < n → ∃ l, LiAt w F (i * 4) l ∧ (l.align = 0 ∨ l = Ty.lie T i)
 ty : TysIn N w a n c T
 nF : N ≤ F
 n1 : F ≠ bf
 n2 : F ≠ bt
 n3 : F ≠ ba
theorem Ak.ch {N : Nat} {w w' : World} {T : Nat → Ty.TyV} {n : Nat} {a : Option Addr} {c bf bt ba F : Nat} {l : List Nat} (h : Ak N w T n a c bf bt ba F) (hg : Ch w w' l) (hl : ∀ k, k ∈ l → N ≤ k) (h1 : bf ∉ l) (h2 : bt ∉ l) (h3 : ba ∉ l) (h4 : F ∉ l) : Ak N w' T n a c bf bt ba F :=
 ⟨hg.cell h.cf h1, hg.cell h.ct h2, hg.cell h.ca h3, fun k => frozen_ch hg h.lt h4 (h.fz k), Nat.lt_of_lt_of_le h.lt hg.size, fun i hi => by obtain ⟨x, hx, e⟩ := h.lie i hi; exact ⟨x, hx.ch hg h4, e⟩, h.ty.ch hg hl, h.nF, h.n1, h.n2, h.n3⟩
theorem Ak.grow {N : Nat} {w w' : World} {T : Nat → Ty.TyV} {n : Nat} {a : Option Addr} {c bf bt ba F : Nat} (h : Ak N w T n a c bf bt ba F) (hg : w.grownBy w' none) : Ak N w' T n a c bf bt ba F :=
 h.ch (l := []) (Ch.of hg) (by simp) (by simp) (by simp) (by simp) (by simp)
theorem Ak.bl {N : Nat} {w : World} {T : Nat → Ty.TyV} {n : Nat} {a : Option Addr} {c bf bt ba F : Nat} (h : Ak N w T n a c bf bt ba F) : bf < w.heap.size ∧ bt < w.heap.size ∧ ba < w.heap.size :=
 ⟨World.block_lt_of_cell? _ _ h.cf, World.block_lt_of_cell? _ _ h.ct, World.block_lt_of_cell? _ _ h.ca⟩
theorem Ak.new {N : Nat} {w w0 w' : World} {T : Nat → Ty.TyV} {n : Nat} {a : Option Addr} {c bf bt ba F B : Nat} (h : Ak N w0 T n a c bf bt ba F) (h0 : Ak N w T n a c bf bt ba F) (hN : N ≤ w.heap.size) (hB : w.heap.size ≤ B) (hg : w0.grownBy w' (some B)) : Ak N w' T n a c bf bt ba F := by
 have hb := h0.bl
 have := h0.lt
 exact h.ch (l := [B]) (Ch.one hg (by simp)) (by simp; omega) (by simp; omega) (by simp; omega) (by simp; omega) (by simp; omega)
def AskOk (N : Nat) (T : Nat → Ty.TyV) (n : Nat) (a : Option Addr) (c bf bt ba F K : Nat) : Prop :=
 ∀ j, j < K → ∀ w, Ak N w T n a c bf bt ba F → Calls Tryz.prog 216 #[.int .i64 j, .pointer (some ⟨bf, 0, none⟩), .pointer (some ⟨bt, 0, none⟩), .pointer (some ⟨ba, 0, none⟩)] w fun e w' =>
  e = .returned (.agg #[.int .i64 (Ty.lie T j).size, .int .i64 (Ty.lie T j).align, .int .i64 (Ty.lie T j).words, .bool (Ty.lie T j).arr]) ∧ Ak N w' T n a c bf bt ba F ∧ Ch w w' [F]
theorem wp_appZ1 {ops : Array Oper} {rest : List Oper} {o : Oper} {a : Act} {Q : Exit → Act → World → Prop} {W : World} (hgd : o.guard = none) (s x : Operand)
  (ho : o.op = .call { callee := .builtin .append, args := #[s, x], argTypes := #[48, 48] }) (base : Nat) (v : Value) (l : List Int) (X : Int) (hs : a.eval s = v) (hown : OwnZ W base v l)
  {nb : Nat} (hx : a.eval x = .slice (some ⟨nb, 0, none⟩) 1 1) (hnb : nb = W.heap.size) (hl : l.length ≤ 2000000) (hb : base ≤ W.heap.size)
  (h : ∀ v' w', OwnZ w' base v' (l ++ [X]) → W.grownBy w' v.ownBlock → wpList Tryz.prog ops Q rest (a.put o.dst v') w') : wpList Tryz.prog ops Q (o :: rest) a (W.alloc (Obj.cells #[.int .i64 X] 3)) := by
 subst hnb
 have hl1 : OwnZ (W.alloc (Obj.cells #[.int .i64 X] 3)) W.heap.size (.slice (some ⟨W.heap.size, 0, none⟩) 1 1) [X] := World.ownsRow_lit (base := W.heap.size) (e := 3) (size := 1) W #[.int .i64 X] 1 (Nat.le_refl _) (by decide) rfl
 refine wp_appZs hgd s x ho base v _ l [X] _ hs (hown.grow (World.grownBy_alloc _ _ _)) hx hl1 hl (by simp) (by simp; omega) ?_
 intro v' w' ho' hg'
 exact h v' w' ho' (grown_trans (grown_noneR _ (World.grownBy_alloc _ _ _)) hg')
theorem grown_cell {w w' : World} {r : Option Nat} (hg : w.grownBy w' r) {b o : Nat} {v : Value} (hc : w.cell? ⟨b, o, none⟩ = some v) (hb : ∀ q, r = some q → q ≠ b) : w'.cell? ⟨b, o, none⟩ = some v := by
 rw [← hc]
 exact World.cell?_of_block (hg.block b (World.block_lt_of_cell? _ _ hc) (fun e => hb b e.symm rfl))
theorem ownZ_nil (w : World) (base : Nat) : OwnZ w base (.slice none 0 0) [] := ⟨rfl, .inl ⟨rfl, rfl⟩⟩
theorem places7_any {N : Nat} {w : World} {T : Nat → Ty.TyV} {n : Nat} {a : Option Addr} {c bf bt ba F K : Nat} (hA : Ak N w T n a c bf bt ba F) (hO : AskOk N T n a c bf bt ba F K) (hN : N ≤ w.heap.size) (hK : Ty.Fine T n K)
  {x : Ty.TyV} {fa : Option Addr} {fc : Nat} (hx : NumIn N w fa x.nf fc x.F) (h16 : x.nf ≤ 16) (hf : ∀ k, k < x.nf → 0 ≤ x.F k ∧ x.F k < K) :
  Calls Tryz.prog 238 #[.slice fa x.nf fc, .func (.func 216) #[] #[.pointer (some ⟨bf, 0, none⟩), .pointer (some ⟨bt, 0, none⟩), .pointer (some ⟨ba, 0, none⟩)]] w fun e w' =>
   ∃ v, e = .returned (.tuple #[v, .int .i64 (Ty.en x (Ty.lie T) x.nf)]) ∧ OwnZ w' w.heap.size v ((List.range x.nf).map (Ty.bg x (Ty.lie T))) ∧ Ak N w' T n a c bf bt ba F ∧ Ch w w' [F] := by
 have hle := hx.le
 have hmx := hx.max
 unfold maxLen at hmx
 have HA : Hid (Ak N w T n a c bf bt ba F) := hA
 have HO : Hid (AskOk N T n a c bf bt ba F K) := hO
 have HX : Hid (NumIn N w fa x.nf fc x.F) := hx
 have HF : Hid (∀ k, k < x.nf → 0 ≤ x.F k ∧ x.F k < K) := hf
 have HK : Hid (∀ k, k < x.nf → Ty.Good (Ty.fl x (Ty.lie T) k) ∧ (Ty.fl x (Ty.lie T) k).size ≤ 65536) := fun k hk => hK.good _ (by have := hf k hk; omega)
 have HNF : Hid (N ≤ F) := hA.nF
 have HN : Hid (N ≤ w.heap.size) := hN
 obtain ⟨m, hm⟩ : ∃ m, m = x.nf := ⟨_, rfl⟩
 rw [← hm] at h16 hle HX HF HK ⊢
 clear hA hO hx hf hK hm
 go_enter Tryz.func238, Tryz.ntmps238
 go_wp2_with fail
 go_loopw [4, 5, 11] (fun v e ix wr => ∃ k : Nat, ix = .int .i64 k ∧ e = .int .i64 (Ty.en x (Ty.lie T) k) ∧ k ≤ m ∧ OwnZ wr w.heap.size v ((List.range k).map (Ty.bg x (Ty.lie T))) ∧ Ak N wr T n a c bf bt ba F ∧ Ch w wr [F]) (fun _ _ ix _ => m - (intOf ix).toNat)
 case atStart => exact ⟨0, rfl, rfl, Nat.zero_le _, ownZ_nil _ _, HA.out, Ch.refl _ _⟩
 case round =>
  obtain ⟨k, rfl, rfl, hk, ho, hA, hg⟩ := hrel
  have HG : Hid (Ch w wr [F]) := hg
  obtain ⟨av, cv, hv, hcv, _⟩ := ho.slice
  rw [List.length_map, List.length_range] at hv hcv
  subst hv
  have HW : Hid (OwnZ wr w.heap.size (.slice av k cv) ((List.range k).map (Ty.bg x (Ty.lie T)))) := ho
  have HA2 : Hid (Ak N wr T n a c bf bt ba F) := hA
  clear ho hA hg
  have hsz := HG.out.size
  have HV : Hid (∀ q, (Value.slice av k cv).ownBlock = some q → q ∉ [F]) := fun q hq => by have := HW.out.base q hq; have := HA.out.lt; simp; omega
  by_cases hkn : k < m
  ·have hkn' : (k : Int) < m := by omega
   have hXr := HX.out.ch HG.out (by simp; exact HNF.out)
   obtain ⟨b, off, rfl, hb, hc⟩ := hXr.at hkn
   have hfk := HF.out k hkn
   obtain ⟨j, hj⟩ : ∃ j : Nat, x.F k = j := ⟨(x.F k).toNat, by omega⟩
   have hfl : Ty.fl x (Ty.lie T) k = Ty.lie T j := by unfold Ty.fl; rw [hj]; rfl
   obtain ⟨hgd, hs6⟩ := HK.out k hkn
   have hen := Ty.en_spec (k := k) fun i hi => HK.out i (by omega)
   obtain ⟨L, hL⟩ : ∃ L, L = Ty.lie T j := ⟨_, rfl⟩
   obtain ⟨E, hE⟩ : ∃ E, E = Ty.en x (Ty.lie T) k := ⟨_, rfl⟩
   obtain ⟨U, hU⟩ : ∃ U, U = Ty.up E L.align := ⟨_, rfl⟩
   have HE : Hid (Ty.en x (Ty.lie T) (k + 1) = U + L.size) := by show _ = _; rw [Ty.en, hfl, hU, hE, hL]
   have HB : Hid (Ty.bg x (Ty.lie T) k = U) := by show _ = _; rw [Ty.bg, hfl, hU, hE, hL]
   rw [hfl, ← hL] at hgd hs6
   rw [← hE] at hen
   have hal := hgd.al
   have hs0 : 0 ≤ L.size := by have := hgd.w0; have := hgd.ws; omega
   have hup := Ty.up_spec (n := E) hal
   rw [← hU] at hup
   have hu8 := hal.le
   have HC : Hid (∀ W, Ak N W T n a c bf bt ba F → Calls Tryz.prog 216 #[.int .i64 j, .pointer (some ⟨bf, 0, none⟩), .pointer (some ⟨bt, 0, none⟩), .pointer (some ⟨ba, 0, none⟩)] W fun e w' =>
    e = .returned (.agg #[.int .i64 L.size, .int .i64 L.align, .int .i64 L.words, .bool L.arr]) ∧ Ak N w' T n a c bf bt ba F ∧ Ch W w' [F]) := by rw [hL]; exact HO.out j (by omega)
   have HU : Hid (∀ W, Calls Tryz.prog 239 #[.int .i64 E, .int .i64 L.align] W fun e w' => e = .returned (.int .i64 U) ∧ w' = W) := fun W => by rw [hU]; exact up_any hal (by omega) (by omega) W
   rw [hj] at hc
   have h1 : 0 ≤ U := by omega
   have h2 : U ≤ 1099511627776 := by omega
   rw [← hE]
   clear hfk hj hfl hgd hal hup hu8 hen hE hU hL
   go_wp2_with (first
    | (go_at_call 216; refine (HC.out _ HA2.out).mono ?_; rintro e w3 ⟨rfl, hA3, hg3⟩; have HA3 : Hid (Ak N w3 T n a c bf bt ba F) := hA3; have HG3 : Hid (Ch wr w3 [F]) := hg3; clear hA3 hg3)
    | (go_at_call 239; refine (HU.out _).mono ?_; rintro e w4 ⟨rfl, rfl⟩)
    | (at_builtin; refine wp_appZ1 rfl _ _ rfl w.heap.size (.slice av k cv) ((List.range k).map (Ty.bg x (Ty.lie T))) U rfl ((HW.out.ch HG3.out HV.out).grow (World.grownBy_alloc _ _ _)) rfl (by simp) (by simp; omega) (by have := HG3.out.size; simp; omega) ?_; intro v5 w5 ho5 hg5; have cL := grown_cell (b := w3.heap.size) (o := 0) (v := .int .i64 L.size) hg5 (by simp) (fun q hq => by have := HW.out.lt q hq; have := HG3.out.size; omega)))
   have ho5' : OwnZ w5 w.heap.size v5 ((List.range (k + 1)).map (Ty.bg x (Ty.lie T))) := by rw [List.range_succ, List.map_append, List.map_singleton, HB.out]; exact ho5
   have hbk := HA.out.bl
   have hlt := HA.out.lt
   have hgw : Ch w w5 [F] := by
    have g4 : Ch w (w3.alloc (.cells #[.int .i64 L.size, .int .i64 L.align, .int .i64 L.words, .bool L.arr] 165)) [F] := (HG.out.trans HG3.out).trans (Ch.of (World.grownBy_alloc _ _ _))
    cases hav : (Value.slice av k cv).ownBlock with
    | none => rw [hav] at hg5; exact g4.trans (Ch.of hg5)
    | some T5 => rw [hav] at hg5; exact g4.new (HW.out.base T5 hav) hg5
   have hA5 : Ak N w5 T n a c bf bt ba F := by
    have hA4 := HA3.out.grow (World.grownBy_alloc w3 (.cells #[.int .i64 L.size, .int .i64 L.align, .int .i64 L.words, .bool L.arr] 165) none)
    cases hav : (Value.slice av k cv).ownBlock with
    | none => rw [hav] at hg5; exact hA4.grow hg5
    | some T5 => rw [hav] at hg5; exact hA4.new HA.out HN.out (HW.out.base T5 hav) hg5
   go_roundw
   case rel => exact ⟨k + 1, by go_num, by rw [HE.out], by omega, ho5', hA5, hgw⟩
   case measure => simp [intOf]; omega
  ·obtain rfl : k = m := by omega
   go_wp2
   go_ret2
   exact ⟨_, rfl, HW.out, HA2.out, HG.out⟩
theorem LiAt.set1 {w : World} {b : Nat} {l : Ty.Li} (h : LiAt w b 0 l) (z : Int) : LiAt (w.setCell ⟨b, 1, none⟩ (.int .i64 z)) b 0 { l with align := z } :=
 ⟨(World.cell?_setCell_other _ _ _ _ (by simp)).trans h.c0, World.cell?_setCell_same _ _ _ h.c1, (World.cell?_setCell_other _ _ _ _ (by simp)).trans h.c2, (World.cell?_setCell_other _ _ _ _ (by simp)).trans h.c3⟩
theorem LiAt.set2 {w : World} {b : Nat} {l : Ty.Li} (h : LiAt w b 0 l) (z : Int) : LiAt (w.setCell ⟨b, 2, none⟩ (.int .i64 z)) b 0 { l with words := z } :=
 ⟨(World.cell?_setCell_other _ _ _ _ (by simp)).trans h.c0, (World.cell?_setCell_other _ _ _ _ (by simp)).trans h.c1, World.cell?_setCell_same _ _ _ h.c2, (World.cell?_setCell_other _ _ _ _ (by simp)).trans h.c3⟩
theorem LiAt.set3 {w : World} {b : Nat} {l : Ty.Li} (h : LiAt w b 0 l) (z : Bool) : LiAt (w.setCell ⟨b, 3, none⟩ (.bool z)) b 0 { l with arr := z } :=
 ⟨(World.cell?_setCell_other _ _ _ _ (by simp)).trans h.c0, (World.cell?_setCell_other _ _ _ _ (by simp)).trans h.c1, (World.cell?_setCell_other _ _ _ _ (by simp)).trans h.c2, World.cell?_setCell_same _ _ _ h.c3⟩
theorem struct_any {N : Nat} {w : World} {T : Nat → Ty.TyV} {n : Nat} {a : Option Addr} {c bf bt ba F K : Nat} (hA : Ak N w T n a c bf bt ba F) (hO : AskOk N T n a c bf bt ba F K) (hN : N ≤ w.heap.size) (hK : Ty.Fine T n K)
  {x : Ty.TyV} {fa : Option Addr} {fc : Nat} (hx : NumIn N w fa x.nf fc x.F) (h16 : x.nf ≤ 16) (hf : ∀ k, k < x.nf → 0 ≤ x.F k ∧ x.F k < K) :
  Calls Tryz.prog 231 #[.slice fa x.nf fc, .func (.func 216) #[] #[.pointer (some ⟨bf, 0, none⟩), .pointer (some ⟨bt, 0, none⟩), .pointer (some ⟨ba, 0, none⟩)]] w fun e w' =>
   e = .returned (.agg #[.int .i64 (Ty.up (Ty.en x (Ty.lie T) x.nf) (Ty.al x (Ty.lie T) x.nf)), .int .i64 (Ty.al x (Ty.lie T) x.nf), .int .i64 (Ty.ws x (Ty.lie T) x.nf), .bool (Ty.ar x (Ty.lie T) x.nf)]) ∧ Ak N w' T n a c bf bt ba F ∧ Ch w w' [F] := by
 have hle := hx.le
 have hmx := hx.max
 unfold maxLen at hmx
 have HP : Hid (∀ W, Ak N W T n a c bf bt ba F → N ≤ W.heap.size → NumIn N W fa x.nf fc x.F → Calls Tryz.prog 238 #[.slice fa x.nf fc, .func (.func 216) #[] #[.pointer (some ⟨bf, 0, none⟩), .pointer (some ⟨bt, 0, none⟩), .pointer (some ⟨ba, 0, none⟩)]] W fun e w' =>
   ∃ v, e = .returned (.tuple #[v, .int .i64 (Ty.en x (Ty.lie T) x.nf)]) ∧ OwnZ w' W.heap.size v ((List.range x.nf).map (Ty.bg x (Ty.lie T))) ∧ Ak N w' T n a c bf bt ba F ∧ Ch W w' [F]) := fun W hA' hN' hx' => places7_any hA' hO hN' hK hx' h16 hf
 have HA : Hid (Ak N w T n a c bf bt ba F) := hA
 have HO : Hid (AskOk N T n a c bf bt ba F K) := hO
 have HX : Hid (NumIn N w fa x.nf fc x.F) := hx
 have HF : Hid (∀ k, k < x.nf → 0 ≤ x.F k ∧ x.F k < K) := hf
 have HK : Hid (∀ k, k < x.nf → Ty.Good (Ty.fl x (Ty.lie T) k) ∧ (Ty.fl x (Ty.lie T) k).size ≤ 65536) := fun k hk => hK.good _ (by have := hf k hk; omega)
 have HNF : Hid (N ≤ F) := hA.nF
 have HN : Hid (N ≤ w.heap.size) := hN
 have hFlt := hA.lt
 obtain ⟨m, hm⟩ : ∃ m, m = x.nf := ⟨_, rfl⟩
 rw [← hm] at h16 hle HX HF HK HP ⊢
 clear hA hO hx hf hK hm
 go_enter Tryz.func231, Tryz.ntmps231
 go_wp2_with fail
 go_loopw [13] (fun ix wr => ∃ k : Nat, ix = .int .i64 k ∧ k ≤ m ∧ LiAt wr w.heap.size 0 ⟨0, Ty.al x (Ty.lie T) k, Ty.ws x (Ty.lie T) k, Ty.ar x (Ty.lie T) k⟩ ∧ (∀ q, wr.frozen? ⟨w.heap.size, q, none⟩ = false) ∧ Ak N wr T n a c bf bt ba F ∧ Ch w wr [F]) (fun ix _ => m - (intOf ix).toNat)
 case atStart => exact ⟨0, rfl, Nat.zero_le _, ⟨by simp, by simp [Ty.al], by simp [Ty.ws], by simp [Ty.ar]⟩, fun q => by simp, HA.out.grow (World.grownBy_alloc _ _ _), Ch.of (World.grownBy_alloc _ _ _)⟩
 case round =>
  obtain ⟨k, rfl, hk, hl, hfz, hA, hg⟩ := hrel
  have HG : Hid (Ch w wr [F]) := hg
  have HL : Hid (LiAt wr w.heap.size 0 ⟨0, Ty.al x (Ty.lie T) k, Ty.ws x (Ty.lie T) k, Ty.ar x (Ty.lie T) k⟩) := hl
  have HZ : Hid (∀ q, wr.frozen? ⟨w.heap.size, q, none⟩ = false) := hfz
  have HA2 : Hid (Ak N wr T n a c bf bt ba F) := hA
  have hsz := World.block_lt_of_cell? _ _ hl.c0
  clear hl hfz hA hg
  by_cases hkn : k < m
  ·have hkn' : (k : Int) < m := by omega
   have hXr := HX.out.ch HG.out (by simp; exact HNF.out)
   obtain ⟨b, off, rfl, hb, hc⟩ := hXr.at hkn
   have hfk := HF.out k hkn
   obtain ⟨j, hj⟩ : ∃ j : Nat, x.F k = j := ⟨(x.F k).toNat, by omega⟩
   have hfl : Ty.fl x (Ty.lie T) k = Ty.lie T j := by unfold Ty.fl; rw [hj]; rfl
   obtain ⟨hgd, hs6⟩ := HK.out k hkn
   have hen := Ty.en_spec (k := k) fun i hi => HK.out i (by omega)
   have hale := Ty.al_al (k := k) fun i hi => (HK.out i (by omega)).1
   obtain ⟨L, hL⟩ : ∃ L, L = Ty.lie T j := ⟨_, rfl⟩
   obtain ⟨al, hal⟩ : ∃ al, al = Ty.al x (Ty.lie T) k := ⟨_, rfl⟩
   obtain ⟨ws, hws⟩ : ∃ ws, ws = Ty.ws x (Ty.lie T) k := ⟨_, rfl⟩
   obtain ⟨ar, har⟩ : ∃ ar, ar = Ty.ar x (Ty.lie T) k := ⟨_, rfl⟩
   have HE1 : Hid (Ty.al x (Ty.lie T) (k + 1) = max al L.align) := by show _ = _; rw [Ty.al, hfl, hal, hL]
   have HE2 : Hid (Ty.ws x (Ty.lie T) (k + 1) = ws + L.words) := by show _ = _; rw [Ty.ws, hfl, hws, hL]
   have HE3 : Hid (Ty.ar x (Ty.lie T) (k + 1) = (ar || L.arr)) := by show _ = _; rw [Ty.ar, hfl, har, hL]
   rw [hfl, ← hL] at hgd hs6
   rw [← hws] at hen
   rw [← hal, ← hws, ← har] at HL
   rw [← hal] at hale
   have w0 := hgd.w0
   have w1 := hgd.ws
   have w2 : ws ≤ 1099511627776 := by omega
   have w3 := hen.1
   have a1 := hale.pos
   have a2 := hale.le
   have a3 := hgd.al.pos
   have a4 := hgd.al.le
   have HC : Hid (∀ W, Ak N W T n a c bf bt ba F → Calls Tryz.prog 216 #[.int .i64 j, .pointer (some ⟨bf, 0, none⟩), .pointer (some ⟨bt, 0, none⟩), .pointer (some ⟨ba, 0, none⟩)] W fun e w' =>
    e = .returned (.agg #[.int .i64 L.size, .int .i64 L.align, .int .i64 L.words, .bool L.arr]) ∧ Ak N w' T n a c bf bt ba F ∧ Ch W w' [F]) := by rw [hL]; exact HO.out j (by omega)
   rw [hj] at hc
   have hBF : w.heap.size ∉ [F] := by simp; omega
   clear hfk hj hfl hgd hal hws har hen hL
   cases ar
   all_goals (
    go_wp2_with (go_at_call 216; refine (HC.out _ HA2.out).mono ?_; rintro e w3 ⟨rfl, hA3, hg3⟩; have HA3 : Hid (Ak N w3 T n a c bf bt ba F) := hA3; have HG3 : Hid (Ch wr w3 [F]) := hg3; have hsz3 := hg3.size; have HL3 : Hid (LiAt (w3.alloc (.cells #[.int .i64 L.size, .int .i64 L.align, .int .i64 L.words, .bool L.arr] 165)) w.heap.size 0 ⟨0, al, ws, _⟩) := (HL.out.ch hg3 hBF).ch (l := []) (Ch.of (World.grownBy_alloc _ _ _)) (by simp); have l1 := HL3.out.c1; have l2 := HL3.out.c2; have l3 := HL3.out.c3; have HZ3 : Hid (∀ q, (w3.alloc (.cells #[.int .i64 L.size, .int .i64 L.align, .int .i64 L.words, .bool L.arr] 165)).frozen? ⟨w.heap.size, q, none⟩ = false) := (fun q => frozen_ch (l := []) (Ch.of (World.grownBy_alloc _ _ _)) (by omega) (by simp) (frozen_ch hg3 hsz hBF (HZ.out q))); have z1 := HZ3.out 1; have z2 := HZ3.out 2; have z3 := HZ3.out 3; clear hA3 hg3)
    have eM : max al L.align = if al < L.align then L.align else al := by split <;> omega
    go_roundw
    case rel =>
     refine ⟨k + 1, by go_num, by omega, ?_, fun q => by simp only [World.frozen?_setCell]; exact HZ3.out q, ?_, ?_⟩
     ·rw [HE1.out, HE2.out, HE3.out, eM]
      exact ((HL3.out.set1 _).set2 _).set3 _
     ·exact (((HA3.out.grow (World.grownBy_alloc _ _ _)).new HA.out HN.out (Nat.le_refl _) (grown_set _ _ _ _)).new HA.out HN.out (Nat.le_refl _) (grown_set _ _ _ _)).new HA.out HN.out (Nat.le_refl _) (grown_set _ _ _ _)
     ·exact ((((HG.out.trans HG3.out).trans (Ch.of (World.grownBy_alloc _ _ _))).new (Nat.le_refl _) (grown_set _ _ _ _)).new (Nat.le_refl _) (grown_set _ _ _ _)).new (Nat.le_refl _) (grown_set _ _ _ _)
    case measure => simp [intOf]; omega)
  ·obtain rfl : k = m := by omega
   have hXr := HX.out.ch HG.out (by simp; exact HNF.out)
   have hen := Ty.en_spec (k := k) fun i hi => HK.out i (by omega)
   have hale := Ty.al_al (k := k) fun i hi => (HK.out i (by omega)).1
   have hs0 := HG.out.size
   have hPC := HP.out wr HA2.out (by have := HN.out; omega) hXr
   have HPC : Hid (Calls Tryz.prog 238 #[.slice fa k fc, .func (.func 216) #[] #[.pointer (some ⟨bf, 0, none⟩), .pointer (some ⟨bt, 0, none⟩), .pointer (some ⟨ba, 0, none⟩)]] wr fun e w' =>
    ∃ v, e = .returned (.tuple #[v, .int .i64 (Ty.en x (Ty.lie T) k)]) ∧ OwnZ w' wr.heap.size v ((List.range k).map (Ty.bg x (Ty.lie T))) ∧ Ak N w' T n a c bf bt ba F ∧ Ch wr w' [F]) := hPC
   obtain ⟨E, hE⟩ : ∃ E, E = Ty.en x (Ty.lie T) k := ⟨_, rfl⟩
   obtain ⟨al, hal⟩ : ∃ al, al = Ty.al x (Ty.lie T) k := ⟨_, rfl⟩
   obtain ⟨ws, hws⟩ : ∃ ws, ws = Ty.ws x (Ty.lie T) k := ⟨_, rfl⟩
   obtain ⟨ar, har⟩ : ∃ ar, ar = Ty.ar x (Ty.lie T) k := ⟨_, rfl⟩
   obtain ⟨U, hU⟩ : ∃ U, U = Ty.up E al := ⟨_, rfl⟩
   have HU : Hid (∀ W, Calls Tryz.prog 239 #[.int .i64 E, .int .i64 al] W fun e w' => e = .returned (.int .i64 U) ∧ w' = W) := fun W => by rw [hU, hE, hal]; exact up_any hale (by omega) (by omega) W
   have HR : Hid ((Value.agg #[.int .i64 (Ty.up (Ty.en x (Ty.lie T) k) (Ty.al x (Ty.lie T) k)), .int .i64 (Ty.al x (Ty.lie T) k), .int .i64 (Ty.ws x (Ty.lie T) k), .bool (Ty.ar x (Ty.lie T) k)]) = .agg #[.int .i64 U, .int .i64 al, .int .i64 ws, .bool ar]) := by show _ = _; rw [hU, hE, hal, hws, har]
   rw [← hal, ← hws, ← har] at HL
   rw [← hE] at HPC
   have hBF : w.heap.size ∉ [F] := by simp; omega
   clear hPC hXr hen hale hE hal hws har hU
   go_wp2_with (first
    | (go_at_call 238; refine HPC.out.mono ?_; rintro e w3 ⟨v3, rfl, ho3, hA3, hg3⟩; have HA3 : Hid (Ak N w3 T n a c bf bt ba F) := hA3; have HG3 : Hid (Ch wr w3 [F]) := hg3; have HL3 : Hid (LiAt w3 w.heap.size 0 ⟨0, al, ws, ar⟩) := (HL.out.ch hg3 hBF); have l0 := HL3.out.c0; have l1 := HL3.out.c1; have l2 := HL3.out.c2; have l3 := HL3.out.c3; have HZ3 : Hid (∀ q, w3.frozen? ⟨w.heap.size, q, none⟩ = false) := (fun q => frozen_ch hg3 hsz hBF (HZ.out q)); have z0 := HZ3.out 0; have z1 := HZ3.out 1; have z2 := HZ3.out 2; have z3 := HZ3.out 3; clear hA3 hg3 ho3)
    | (go_at_call 239; refine (HU.out _).mono ?_; rintro e w4 ⟨rfl, rfl⟩))
   refine bodyPost_ret (by simp [results, Tryz.results231, go_sem, l0, l1, l2, l3]; try rfl) rfl ?_
   rw [HR.out]
   exact ⟨rfl, (((((HA3.out.new HA.out HN.out (Nat.le_refl _) (grown_set _ _ _ _)).new HA.out HN.out (Nat.le_refl _) (grown_set _ _ _ _)).new HA.out HN.out (Nat.le_refl _) (grown_set _ _ _ _)).new HA.out HN.out (Nat.le_refl _) (grown_set _ _ _ _)).new HA.out HN.out (Nat.le_refl _) (grown_set _ _ _ _)), ((((((HG.out.trans HG3.out).new (Nat.le_refl _) (grown_set _ _ _ _)).new (Nat.le_refl _) (grown_set _ _ _ _)).new (Nat.le_refl _) (grown_set _ _ _ _)).new (Nat.le_refl _) (grown_set _ _ _ _)).new (Nat.le_refl _) (grown_set _ _ _ _))⟩
def liV (l : Ty.Li) : Value := .agg #[.int .i64 l.size, .int .i64 l.align, .int .i64 l.words, .bool l.arr]
theorem find_any {N : Nat} {w : World} {T : Nat → Ty.TyV} {n : Nat} {a : Option Addr} {c bf bt ba F i : Nat} (hA : Ak N w T n a c bf bt ba F) (hO : AskOk N T n a c bf bt ba F i) (hN : N ≤ w.heap.size) (hK : Ty.Fine T n i)
  {x : Ty.TyV} {fa : Option Addr} {fc : Nat} (hx : NumIn N w fa x.nf fc x.F) (hok : Ty.okB x i n = true) :
  Calls Tryz.prog 217 #[.agg #[.int .i64 x.kind, .int .i64 x.elem, .int .i64 x.n, .slice fa x.nf fc], .func (.func 216) #[] #[.pointer (some ⟨bf, 0, none⟩), .pointer (some ⟨bt, 0, none⟩), .pointer (some ⟨ba, 0, none⟩)]] w fun e w' =>
   e = .returned (liV (Ty.lieOf x (Ty.lie T))) ∧ Ak N w' T n a c bf bt ba F ∧ Ch w w' [F] := by
 have hFlt := hA.lt
 obtain ⟨W2, hW2⟩ : ∃ W2, W2 = (w.alloc (.cells #[.int .i64 x.kind, .int .i64 x.elem, .int .i64 x.n, .slice fa x.nf fc] 61)).alloc (.cells #[.int .i64 0, .int .i64 0, .int .i64 0, .bool false] 165) := ⟨_, rfl⟩
 have hg2 : w.grownBy W2 none := by rw [hW2]; exact ga (World.grownBy_alloc _ _ _) _
 have hs2 : W2.heap.size = w.heap.size + 2 := by rw [hW2]; simp
 have hA2 := hA.grow hg2
 have hx2 := hx.ch (l := []) (Ch.of hg2) (by simp)
 have hN2 : N ≤ W2.heap.size := by omega
 have HA : Hid (Ak N w T n a c bf bt ba F) := hA
 have HN : Hid (N ≤ w.heap.size) := hN
 have HG2 : Hid (w.grownBy W2 none) := hg2
 have hBF : w.heap.size ∉ [F] := by simp; omega
 have hBF1 : w.heap.size + 1 ∉ [F] := by simp; omega
 rcases Ty.ok_cases hok with ⟨hk, h1, h2, h3, h4, h5⟩ | ⟨hk, h1, h2, h16, hf⟩ | ⟨hk, h1, h2⟩ | ⟨h1, h2, h3, h4⟩
 ·obtain ⟨L, hL⟩ : ∃ L, L = Ty.lie T x.elem.toNat := ⟨_, rfl⟩
  obtain ⟨hgd, hs⟩ := hK.good x.elem.toNat (by omega)
  rw [← hL] at hgd hs
  have hs0 : 0 ≤ L.size := by have := hgd.w0; have := hgd.ws; omega
  have HC : Hid (Calls Tryz.prog 216 #[.int .i64 x.elem, .pointer (some ⟨bf, 0, none⟩), .pointer (some ⟨bt, 0, none⟩), .pointer (some ⟨ba, 0, none⟩)] W2 fun e w' =>
    e = .returned (.agg #[.int .i64 L.size, .int .i64 L.align, .int .i64 L.words, .bool L.arr]) ∧ Ak N w' T n a c bf bt ba F ∧ Ch W2 w' [F]) := by
   have := hO x.elem.toNat (by omega) W2 hA2
   rw [Int.toNat_of_nonneg h1] at this
   rw [hL]; exact this
  have hm := Int.mul_le_mul h4 hs hs0 (by omega)
  have hm0 : 0 ≤ x.n * L.size := Int.mul_nonneg h3 hs0
  obtain ⟨M, hM⟩ : ∃ M, M = x.n * L.size := ⟨_, rfl⟩
  rw [← hM] at hm hm0
  have HR : Hid (liV (Ty.lieOf x (Ty.lie T)) = .agg #[.int .i64 M, .int .i64 L.align, .int .i64 0, .bool true]) := by show _ = _; unfold Ty.lieOf liV; rw [if_pos hk, ← hL, ← hM]
  have HM : Hid (wrap64 (x.n * L.size) = M) := by show _ = _; rw [← hM]; unfold wrap64; omega
  obtain ⟨k, el, nn, nf, FF⟩ := x
  simp only at *
  subst hk
  have k0 : W2.cell? ⟨w.heap.size, 0, none⟩ = some (.int .i64 12) := by rw [hW2]; simp
  have k1 : W2.cell? ⟨w.heap.size, 1, none⟩ = some (.int .i64 el) := by rw [hW2]; simp
  have k2 : W2.cell? ⟨w.heap.size, 2, none⟩ = some (.int .i64 nn) := by rw [hW2]; simp
  have K2 : Hid (W2.cell? ⟨w.heap.size, 2, none⟩ = some (.int .i64 nn)) := k2
  have HL2 : Hid (LiAt W2 (w.heap.size + 1) 0 ⟨0, 0, 0, false⟩) := by rw [hW2]; exact ⟨by simp, by simp, by simp, by simp⟩
  have HZ2 : Hid (∀ q, W2.frozen? ⟨w.heap.size + 1, q, none⟩ = false) := fun q => by rw [hW2]; simp
  have HW : Hid (W2 = (w.alloc (.cells #[.int .i64 12, .int .i64 el, .int .i64 nn, .slice fa nf fc] 61)).alloc (.cells #[.int .i64 0, .int .i64 0, .int .i64 0, .bool false] 165)) := hW2
  clear hA hO hK hx hok h1 h2 h5 hgd hW2 hA2 hx2 hL hM hg2
  go_enter Tryz.func217, Tryz.ntmps217
  go_wp2_with (go_at_call 216; rw [← HW.out]; refine HC.out.mono ?_; rintro e w3 ⟨rfl, hA3, hg3⟩; have HA3 : Hid (Ak N w3 T n a c bf bt ba F) := hA3; have HG3 : Hid (Ch W2 w3 [F]) := hg3; have hs3 := hg3.size; have HL3 : Hid (LiAt (w3.alloc (.cells #[.int .i64 L.size, .int .i64 L.align, .int .i64 L.words, .bool L.arr] 165)) (w.heap.size + 1) 0 ⟨0, 0, 0, false⟩) := (HL2.out.ch hg3 hBF1).ch (l := []) (Ch.of (World.grownBy_alloc _ _ _)) (by simp); have l0 := HL3.out.c0; have l1 := HL3.out.c1; have l2 := HL3.out.c2; have l3 := HL3.out.c3; have j2 : (w3.alloc (.cells #[.int .i64 L.size, .int .i64 L.align, .int .i64 L.words, .bool L.arr] 165)).cell? ⟨w.heap.size, 2, none⟩ = some (.int .i64 nn) := (Ch.of (l := []) (World.grownBy_alloc _ _ _)).cell (hg3.cell K2.out hBF) (by simp); have HZ3 : Hid (∀ q, (w3.alloc (.cells #[.int .i64 L.size, .int .i64 L.align, .int .i64 L.words, .bool L.arr] 165)).frozen? ⟨w.heap.size + 1, q, none⟩ = false) := (fun q => frozen_ch (l := []) (Ch.of (World.grownBy_alloc _ _ _)) (by omega) (by simp) (frozen_ch hg3 (by omega) hBF1 (HZ2.out q))); have z0 := HZ3.out 0; have z1 := HZ3.out 1; have z2 := HZ3.out 2; have z3 := HZ3.out 3; clear hA3 hg3)
  rw [HM.out]
  refine bodyPost_ret (by simp [results, Tryz.results217, go_sem, l0, l1, l2, l3]; try rfl) rfl ?_
  rw [HR.out]
  exact ⟨rfl, (((((HA3.out.grow (World.grownBy_alloc _ _ _)).new HA.out HN.out (Nat.le_succ _) (grown_set _ _ _ _)).new HA.out HN.out (Nat.le_succ _) (grown_set _ _ _ _)).new HA.out HN.out (Nat.le_succ _) (grown_set _ _ _ _)).new HA.out HN.out (Nat.le_succ _) (grown_set _ _ _ _)), (((((((Ch.of HG2.out).trans HG3.out).trans (Ch.of (World.grownBy_alloc _ _ _))).new (Nat.le_succ _) (grown_set _ _ _ _)).new (Nat.le_succ _) (grown_set _ _ _ _)).new (Nat.le_succ _) (grown_set _ _ _ _)).new (Nat.le_succ _) (grown_set _ _ _ _))⟩
 ·have hP := struct_any hA2 hO hN2 hK hx2 h16 hf
  obtain ⟨L, hL⟩ : ∃ L : Ty.Li, L = ⟨Ty.up (Ty.en x (Ty.lie T) x.nf) (Ty.al x (Ty.lie T) x.nf), Ty.al x (Ty.lie T) x.nf, Ty.ws x (Ty.lie T) x.nf, Ty.ar x (Ty.lie T) x.nf⟩ := ⟨_, rfl⟩
  have HC : Hid (Calls Tryz.prog 231 #[.slice fa x.nf fc, .func (.func 216) #[] #[.pointer (some ⟨bf, 0, none⟩), .pointer (some ⟨bt, 0, none⟩), .pointer (some ⟨ba, 0, none⟩)]] W2 fun e w' =>
    e = .returned (.agg #[.int .i64 L.size, .int .i64 L.align, .int .i64 L.words, .bool L.arr]) ∧ Ak N w' T n a c bf bt ba F ∧ Ch W2 w' [F]) := by rw [hL]; exact hP
  have HR : Hid (liV (Ty.lieOf x (Ty.lie T)) = .agg #[.int .i64 L.size, .int .i64 L.align, .int .i64 L.words, .bool L.arr]) := by show _ = _; unfold Ty.lieOf liV; rw [if_neg (by omega), if_pos hk, hL]
  obtain ⟨k, el, nn, nf, FF⟩ := x
  simp only at *
  subst hk
  have HL2 : Hid (LiAt W2 (w.heap.size + 1) 0 ⟨0, 0, 0, false⟩) := by rw [hW2]; exact ⟨by simp, by simp, by simp, by simp⟩
  have HZ2 : Hid (∀ q, W2.frozen? ⟨w.heap.size + 1, q, none⟩ = false) := fun q => by rw [hW2]; simp
  have HW : Hid (W2 = (w.alloc (.cells #[.int .i64 13, .int .i64 el, .int .i64 nn, .slice fa nf fc] 61)).alloc (.cells #[.int .i64 0, .int .i64 0, .int .i64 0, .bool false] 165)) := hW2
  clear hA hO hK hx hok h1 h2 hW2 hA2 hx2 hL hg2 hP hf h16
  go_enter Tryz.func217, Tryz.ntmps217
  go_wp2_with (go_at_call 231; rw [← HW.out]; refine HC.out.mono ?_; rintro e w3 ⟨rfl, hA3, hg3⟩; have HA3 : Hid (Ak N w3 T n a c bf bt ba F) := hA3; have HG3 : Hid (Ch W2 w3 [F]) := hg3; have hs3 := hg3.size; have HL3 : Hid (LiAt w3 (w.heap.size + 1) 0 ⟨0, 0, 0, false⟩) := (HL2.out.ch hg3 hBF1); have l0 := HL3.out.c0; have l1 := HL3.out.c1; have l2 := HL3.out.c2; have l3 := HL3.out.c3; have HZ3 : Hid (∀ q, w3.frozen? ⟨w.heap.size + 1, q, none⟩ = false) := (fun q => frozen_ch hg3 (by omega) hBF1 (HZ2.out q)); have z0 := HZ3.out 0; have z1 := HZ3.out 1; have z2 := HZ3.out 2; have z3 := HZ3.out 3; clear hA3 hg3)
  refine bodyPost_ret (by simp [results, Tryz.results217, go_sem, l0, l1, l2, l3]; try rfl) rfl ?_
  rw [HR.out]
  exact ⟨rfl, ((((HA3.out.new HA.out HN.out (Nat.le_succ _) (grown_set _ _ _ _)).new HA.out HN.out (Nat.le_succ _) (grown_set _ _ _ _)).new HA.out HN.out (Nat.le_succ _) (grown_set _ _ _ _)).new HA.out HN.out (Nat.le_succ _) (grown_set _ _ _ _)), ((((((Ch.of HG2.out).trans HG3.out).new (Nat.le_succ _) (grown_set _ _ _ _)).new (Nat.le_succ _) (grown_set _ _ _ _)).new (Nat.le_succ _) (grown_set _ _ _ _)).new (Nat.le_succ _) (grown_set _ _ _ _))⟩
 ·have HR : Hid (liV (Ty.lieOf x (Ty.lie T)) = .agg #[.int .i64 16, .int .i64 8, .int .i64 2, .bool false]) := by show _ = _; unfold Ty.lieOf liV; rw [if_neg (by omega), if_neg (by omega), if_pos hk]
  obtain ⟨k, el, nn, nf, FF⟩ := x
  simp only at *
  clear hO hK hx hok h1 h2 hA2 hx2 hg2 hW2 HG2 hs2 hN2
  rcases hk with rfl | rfl
  all_goals (
   go_enter Tryz.func217, Tryz.ntmps217
   go_wp2
   refine bodyPost_ret (by simp [results, Tryz.results217, go_sem]; try rfl) rfl ?_
   rw [HR.out]
   refine ⟨rfl, ?_, ?_⟩
   ·exact hA.grow (ga (World.grownBy_alloc _ _ _) _)
   ·exact Ch.of (ga (World.grownBy_alloc _ _ _) _))
 ·have HR : Hid (liV (Ty.lieOf x (Ty.lie T)) = .agg #[.int .i64 (Wd.by' x.kind), .int .i64 (Wd.by' x.kind), .int .i64 1, .bool false]) := by show _ = _; unfold Ty.lieOf liV; rw [if_neg (by omega), if_neg (by omega), if_neg (by omega)]
  obtain ⟨k, el, nn, nf, FF⟩ := x
  simp only at *
  have k1 : (k == 12) = false := by simp; omega
  have k2 : (k == 13) = false := by simp; omega
  have k3 : (k == 14) = false := by simp; omega
  have k4 : (k == 15) = false := by simp; omega
  have HC : Hid (∀ W, Calls Tryz.prog 232 #[.int .i64 k] W fun e w' => e = .returned (.int .i64 (Wd.by' k)) ∧ w' = W) := fun W => bytes_any k W
  generalize Wd.by' k = B at *
  clear hO hK hx hok h3 h4 hA2 hx2 hg2 hW2 HG2 hs2 hN2
  go_enter Tryz.func217, Tryz.ntmps217
  go_wp2_with (go_at_call 232; refine (HC.out _).mono ?_; rintro e w3 ⟨rfl, rfl⟩)
  refine bodyPost_ret (by simp [results, Tryz.results217, go_sem]; try rfl) rfl ?_
  rw [HR.out]
  refine ⟨rfl, ?_, ?_⟩
  ·exact hA.grow (ga (World.grownBy_alloc _ _ _) _)
  ·exact Ch.of (ga (World.grownBy_alloc _ _ _) _)
structure Kw (N : Nat) (T : Nat → Ty.TyV) (n : Nat) (a : Option Addr) (c bf bt ba F : Nat) (W : World) where
 w : World
 hA : Ak N w T n a c bf bt ba F
 hC : Ch W w [F]
theorem Kw.call {P : Program} {f : FuncId} {args : Array Value} {N : Nat} {T : Nat → Ty.TyV} {n : Nat} {a : Option Addr} {c bf bt ba F : Nat} {W : World} {x : Kw N T n a c bf bt ba F W} {v : Value}
  (h : Calls P f args x.w fun e w' => e = .returned v ∧ Ak N w' T n a c bf bt ba F ∧ Ch x.w w' [F]) : Calls P f args x.w fun e w'' => e = .returned v ∧ ∃ y : Kw N T n a c bf bt ba F W, w'' = y.w :=
 h.mono fun _ w'' ⟨he, hA, hg⟩ => ⟨he, ⟨w'', hA, x.hC.trans hg⟩, rfl⟩
def put4 (w : World) (F o : Nat) (l : Ty.Li) : World := (((w.setCell ⟨F, o, none⟩ (.int .i64 l.size)).setCell ⟨F, o + 1, none⟩ (.int .i64 l.align)).setCell ⟨F, o + 2, none⟩ (.int .i64 l.words)).setCell ⟨F, o + 3, none⟩ (.bool l.arr)
theorem put4_same {w : World} {F o : Nat} {l l0 : Ty.Li} (h : LiAt w F o l0) : LiAt (put4 w F o l) F o l := by
 have a0 : (w.setCell ⟨F, o, none⟩ (.int .i64 l.size)).cell? ⟨F, o, none⟩ = some (.int .i64 l.size) := World.cell?_setCell_same _ _ _ h.c0
 have a1 : ((w.setCell ⟨F, o, none⟩ (.int .i64 l.size)).setCell ⟨F, o + 1, none⟩ (.int .i64 l.align)).cell? ⟨F, o + 1, none⟩ = some (.int .i64 l.align) := World.cell?_setCell_same _ _ _ ((World.cell?_setCell_other _ _ _ _ (by simp)).trans h.c1)
 have a2 : (((w.setCell ⟨F, o, none⟩ (.int .i64 l.size)).setCell ⟨F, o + 1, none⟩ (.int .i64 l.align)).setCell ⟨F, o + 2, none⟩ (.int .i64 l.words)).cell? ⟨F, o + 2, none⟩ = some (.int .i64 l.words) :=
  World.cell?_setCell_same _ _ _ (((World.cell?_setCell_other _ _ _ _ (by simp)).trans (World.cell?_setCell_other _ _ _ _ (by simp))).trans h.c2)
 refine ⟨?_, ?_, ?_, ?_⟩
 ·exact (World.cell?_setCell_other _ _ _ _ (by simp)).trans ((World.cell?_setCell_other _ _ _ _ (by simp)).trans ((World.cell?_setCell_other _ _ _ _ (by simp)).trans a0))
 ·exact (World.cell?_setCell_other _ _ _ _ (by simp)).trans ((World.cell?_setCell_other _ _ _ _ (by simp)).trans a1)
 ·exact (World.cell?_setCell_other _ _ _ _ (by simp)).trans a2
 ·exact World.cell?_setCell_same _ _ _ (((World.cell?_setCell_other _ _ _ _ (by simp)).trans ((World.cell?_setCell_other _ _ _ _ (by simp)).trans (World.cell?_setCell_other _ _ _ _ (by simp)))).trans h.c3)
theorem put4_far {w : World} {F o : Nat} {l : Ty.Li} {q : Nat} (h : q < o ∨ o + 4 ≤ q) : (put4 w F o l).cell? ⟨F, q, none⟩ = w.cell? ⟨F, q, none⟩ := by
 have e : ∀ d, d < 4 → (⟨F, o + d, none⟩ : Addr) ≠ ⟨F, q, none⟩ := fun d hd he => by injection he with h1 h2; omega
 unfold put4
 rw [World.cell?_setCell_other _ _ _ _ (e 3 (by omega)), World.cell?_setCell_other _ _ _ _ (e 2 (by omega)), World.cell?_setCell_other _ _ _ _ (e 1 (by omega)), World.cell?_setCell_other _ _ _ _ (show (⟨F, o, none⟩ : Addr) ≠ ⟨F, q, none⟩ from e 0 (by omega))]
theorem put4_grown (w : World) (F o : Nat) (l : Ty.Li) : w.grownBy (put4 w F o l) (some F) :=
 grown_trans (grown_trans (grown_trans (grown_set _ _ _ _) (grown_set _ _ _ _)) (grown_set _ _ _ _)) (grown_set _ _ _ _)
theorem Ak.put {N : Nat} {w : World} {T : Nat → Ty.TyV} {n : Nat} {a : Option Addr} {c bf bt ba F : Nat} (h : Ak N w T n a c bf bt ba F) {k : Nat} (hk : k < n) : Ak N (put4 w F (k * 4) (Ty.lie T k)) T n a c bf bt ba F := by
 have hg : Ch w (put4 w F (k * 4) (Ty.lie T k)) [F] := Ch.one (put4_grown _ _ _ _) (by simp)
 refine ⟨hg.cell h.cf (by simp; exact fun e => h.n1 e.symm), hg.cell h.ct (by simp; exact fun e => h.n2 e.symm), hg.cell h.ca (by simp; exact fun e => h.n3 e.symm), fun q => ?_, Nat.lt_of_lt_of_le h.lt hg.size, fun i hi => ?_, h.ty.ch hg (by simp; exact h.nF), h.nF, h.n1, h.n2, h.n3⟩
 ·unfold put4
  simp only [World.frozen?_setCell]
  exact h.fz q
 ·by_cases e : i = k
  ·subst e
   obtain ⟨l0, hl, _⟩ := h.lie i hi
   exact ⟨_, put4_same hl, .inr rfl⟩
  ·obtain ⟨l0, hl, e0⟩ := h.lie i hi
   exact ⟨l0, ⟨(put4_far (by omega)).trans hl.c0, (put4_far (by omega)).trans hl.c1, (put4_far (by omega)).trans hl.c2, (put4_far (by omega)).trans hl.c3⟩, e0⟩
theorem ask_step {N : Nat} {T : Nat → Ty.TyV} {n : Nat} {a : Option Addr} {c bf bt ba F K : Nat} (hO : AskOk N T n a c bf bt ba F K) (hK : Ty.Fine T n K) (hn : K < n) (hok : Ty.okB (T K) K n = true) : AskOk N T n a c bf bt ba F (K + 1) := by
 intro j hj
 by_cases hjK : j < K
 ·exact hO j hjK
 obtain rfl : j = K := by omega
 clear hj hjK
 intro w hA
 obtain ⟨hgd, _⟩ := hK.next hok
 obtain ⟨L, hL⟩ : ∃ L, L = Ty.lie T j := ⟨_, rfl⟩
 have hn' : (j : Int) < n := by omega
 have hFlt := hA.lt
 have HA : Hid (Ak N w T n a c bf bt ba F) := hA
 have cf := (hA.grow (World.grownBy_alloc w (.cells #[.int .i64 0, .int .i64 0, .int .i64 0, .bool false] 165) none)).cf
 have HN : Hid (N ≤ w.heap.size) := by have := hA.nF; show N ≤ _; omega
 obtain ⟨l, hl, hcase⟩ := hA.lie j hn
 rw [← hL] at hgd hcase ⊢
 by_cases h0 : l.align = 0
 ·clear hcase
  have f1 := (hl.ch (l := []) (Ch.of (World.grownBy_alloc w (.cells #[.int .i64 0, .int .i64 0, .int .i64 0, .bool false] 165) none)) (by simp)).c1
  rw [h0] at f1
  obtain ⟨b, off, fa, fc, rfl, hb, hty⟩ := hA.ty.at hn
  have HO : Hid (∀ W, Ak N W T n (some ⟨b, off, none⟩) c bf bt ba F → NumIn N W fa (T j).nf fc (T j).F → Calls Tryz.prog 217 #[.agg #[.int .i64 (T j).kind, .int .i64 (T j).elem, .int .i64 (T j).n, .slice fa (T j).nf fc], .func (.func 216) #[] #[.pointer (some ⟨bf, 0, none⟩), .pointer (some ⟨bt, 0, none⟩), .pointer (some ⟨ba, 0, none⟩)]] W fun e w' =>
   e = .returned (.agg #[.int .i64 L.size, .int .i64 L.align, .int .i64 L.words, .bool L.arr]) ∧ Ak N w' T n (some ⟨b, off, none⟩) c bf bt ba F ∧ Ch W w' [F]) := fun W h1 h2 => by
    have := find_any h1 hO (by have := h1.nF; have := h1.lt; omega) hK h2 hok
    rw [← Ty.lie_eq hok, ← hL] at this
    exact this
  have HT : Hid (TyC N w b (off + j * 4) (T j) fa fc) := hty
  have HLL : Hid (L = Ty.lie T j) := hL
  generalize T j = x at *
  obtain ⟨W, hW⟩ : ∃ W, W = w.alloc (.cells #[.int .i64 0, .int .i64 0, .int .i64 0, .bool false] 165) := ⟨_, rfl⟩
  have HW : Hid (w.grownBy W none) := by show World.grownBy _ _ _; rw [hW]; exact World.grownBy_alloc _ _ _
  have HL2 : Hid (LiAt W w.heap.size 0 ⟨0, 0, 0, false⟩) := by rw [hW]; exact ⟨by simp, by simp, by simp, by simp⟩
  have HZ2 : Hid (∀ q, W.frozen? ⟨w.heap.size, q, none⟩ = false) := fun q => by rw [hW]; simp
  have HWW : Hid (W = w.alloc (.cells #[.int .i64 0, .int .i64 0, .int .i64 0, .bool false] 165)) := hW
  clear hA hO hK hok hL hty hgd hl hW
  go_enter Tryz.func216, Tryz.ntmps216
  go_wp2_with fail
  rw [← HWW.out]
  refine tail_class (fun w' => ∃ y : Kw N T n (some ⟨b, off, none⟩) c bf bt ba F W, w' = y.w) 9 (by kernel_rfl) (by kernel_rfl) ⟨⟨W.drew, (HA.out.grow HW.out).grow (grown_drew (World.grownBy.refl _ _)), Ch.of (grown_drew (World.grownBy.refl _ _))⟩, rfl⟩ ?_
  have ne : Nonempty (Kw N T n (some ⟨b, off, none⟩) c bf bt ba F W) := ⟨⟨W, HA.out.grow HW.out, Ch.refl _ _⟩⟩
  have d0 := fun y : Kw N T n (some ⟨b, off, none⟩) c bf bt ba F W => y.hA.cf
  have d1 := fun y : Kw N T n (some ⟨b, off, none⟩) c bf bt ba F W => y.hA.ct
  have d2 := fun y : Kw N T n (some ⟨b, off, none⟩) c bf bt ba F W => y.hA.ca
  have hty := fun y : Kw N T n (some ⟨b, off, none⟩) c bf bt ba F W => (HT.out.ch (l := []) (Ch.of HW.out) (by simp) (by simp)).ch y.hC (by simp; exact HA.out.nF) (by simp; have := HA.out.nF; omega)
  have HTY : Hid (∀ y : Kw N T n (some ⟨b, off, none⟩) c bf bt ba F W, TyC N y.w b (off + j * 4) x fa fc) := hty
  have e0 := fun y : Kw N T n (some ⟨b, off, none⟩) c bf bt ba F W => (HTY.out y).c0
  have e1 := fun y : Kw N T n (some ⟨b, off, none⟩) c bf bt ba F W => (HTY.out y).c1
  have e2 := fun y : Kw N T n (some ⟨b, off, none⟩) c bf bt ba F W => (HTY.out y).c2
  have e3 := fun y : Kw N T n (some ⟨b, off, none⟩) c bf bt ba F W => (HTY.out y).c3
  clear hty
  simp only [List.take_succ_cons, List.take_zero, List.drop_succ_cons, List.drop_zero]
  repeat (go_big_quiet_step (first | exact rfl | (go_at_call 217; exact Kw.call (HO.out _ (Kw.hA _) (HTY.out _).f))))
  refine wpQuiet_nil ?_
  rintro W5 ⟨y5, hy5⟩
  have hA5 : Ak N W5 T n (some ⟨b, off, none⟩) c bf bt ba F := by rw [hy5]; exact y5.hA
  have hC5 : Ch W W5 [F] := by rw [hy5]; exact y5.hC
  clear hy5 y5 d0 d1 d2 e0 e1 e2 e3 ne HTY
  have HA5 : Hid (Ak N W5 T n (some ⟨b, off, none⟩) c bf bt ba F) := hA5
  have HC5 : Hid (Ch W W5 [F]) := hC5
  have hBF : w.heap.size ∉ [F] := by simp; omega
  have hsW : W.heap.size = w.heap.size + 1 := by rw [HWW.out]; simp
  have hs5 := hC5.size
  have HL5 := HL2.out.ch hC5 hBF
  have HZ5 : ∀ q, W5.frozen? ⟨w.heap.size, q, none⟩ = false := fun q => frozen_ch hC5 (by omega) hBF (HZ2.out q)
  obtain ⟨l5, hl5, _⟩ := hA5.lie j hn
  have g0 := hl5.c0
  have g1 := hl5.c1
  have g2 := hl5.c2
  have g3 := hl5.c3
  have y0 := hA5.fz (j * 4)
  have y1 := hA5.fz (j * 4 + 1)
  have y2 := hA5.fz (j * 4 + 2)
  have y3 := hA5.fz (j * 4 + 3)
  obtain ⟨W6, hW6⟩ : ∃ W6, W6 = put4 W5 F (j * 4) L := ⟨_, rfl⟩
  have hA6 : Ak N W6 T n (some ⟨b, off, none⟩) c bf bt ba F := by rw [hW6, HLL.out]; exact hA5.put hn
  have hl6 : LiAt W6 F (j * 4) L := by rw [hW6]; exact put4_same hl5
  have hC6 : Ch W5 W6 [F] := by rw [hW6]; exact Ch.one (put4_grown _ _ _ _) (by simp)
  have HA6 : Hid (Ak N W6 T n (some ⟨b, off, none⟩) c bf bt ba F) := hA6
  have HC6 : Hid (Ch W5 W6 [F]) := hC6
  have HL6 := HL5.ch hC6 hBF
  have HZ6 : ∀ q, W6.frozen? ⟨w.heap.size, q, none⟩ = false := fun q => frozen_ch hC6 (by omega) hBF (HZ5 q)
  have q0 := hl6.c0
  have q1 := hl6.c1
  have q2 := hl6.c2
  have q3 := hl6.c3
  have q4 := hA6.cf
  have r0 := HL6.c0
  have r1 := HL6.c1
  have r2 := HL6.c2
  have r3 := HL6.c3
  have t0 := HZ6 0
  have t1 := HZ6 1
  have t2 := HZ6 2
  have t3 := HZ6 3
  have HW6 : Hid (W6 = put4 W5 F (j * 4) L) := hW6
  unfold put4 at hW6
  rw [hW6] at q0 q1 q2 q3 q4 r0 r1 r2 r3 t0 t1 t2 t3
  clear hl6 hA6 hC6 HL6 HZ6 hl5 hA5 hC5 HL5 HZ5 hW6
  go_wp2
  refine bodyPost_ret (by simp [results, Tryz.results216, go_sem, r0, r1, r2, r3]; try rfl) rfl ?_
  have e6 := HW6.out
  unfold put4 at e6
  rw [← e6]
  refine ⟨rfl, ?_, ?_⟩
  ·exact ((((HA6.out.new HA.out HN.out (Nat.le_refl _) (grown_set _ _ _ _)).new HA.out HN.out (Nat.le_refl _) (grown_set _ _ _ _)).new HA.out HN.out (Nat.le_refl _) (grown_set _ _ _ _)).new HA.out HN.out (Nat.le_refl _) (grown_set _ _ _ _))
  ·exact (((((((Ch.of HW.out).trans HC5.out).trans HC6.out).new (Nat.le_refl _) (grown_set _ _ _ _)).new (Nat.le_refl _) (grown_set _ _ _ _)).new (Nat.le_refl _) (grown_set _ _ _ _)).new (Nat.le_refl _) (grown_set _ _ _ _))
 ·have e : l = L := by
   rcases hcase with h | h
   ·exact absurd h h0
   ·exact h
  subst e
  have hal := hgd.al.pos
  have g := hl.ch (l := []) (Ch.of (World.grownBy_alloc w (.cells #[.int .i64 0, .int .i64 0, .int .i64 0, .bool false] 165) none)) (by simp)
  have g0 := g.c0
  have g1 := g.c1
  have g2 := g.c2
  have g3 := g.c3
  have h0' : (l.align == 0) = false := by simpa using h0
  clear hO hK hok hL hgd hl hcase hA g
  go_enter Tryz.func216, Tryz.ntmps216
  go_wp2
  refine bodyPost_ret (by simp [results, Tryz.results216, go_sem]; try rfl) rfl ?_
  refine ⟨rfl, ?_, ?_⟩
  ·exact HA.out.grow (World.grownBy_alloc _ _ _)
  ·exact Ch.of (World.grownBy_alloc _ _ _)
end Go.Proofs.YtpcgkggpmipiaaaGreat
