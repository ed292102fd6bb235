/- Contracts and plain facts that the walks share. -/
import Derived.Test.YtpcgkggpmipiaaaGreatG1
import Derived.Test.YtpcgkggpmipiaaaGreatG2
import Derived.Test.YtpcgkggpmipiaaaGreatPgW
import Derived.Laws.AppendOwnNone
namespace Go.Proofs.YtpcgkggpmipiaaaGreat
open Go.RowKit
set_option linter.unusedVariables false
section
variable {P : Program} (w : World)
theorem app_block_gen (base : Nat) (t ty e : TypeId) (i : TypeInfo) (z : Value) (size bytes : Nat) (ht : P.underlying t = some (.slice e)) (hi : P.info? e = some i) (hz : i.zero = some z)
  (hsize : i.size = size) (hby : i.bytes = bytes) (v : Value) (n : Nat) (xs : List Value) (hown : w.ownsRow base e size v n xs)
  (a : Addr) (m c : Nat) (news : List Value) (hm : 0 < m) (hl : news.length = m * size) (hnews : ∀ j u, news[j]? = some u → w.cell? (a.add j) = some u) (h1 : ∀ u ∈ news, u.oneCell' = true)
  (h63 : n + m ≤ maxLen) (hbytes : (n + m) * bytes ≤ 140737488355328) {v' : Value} {w' : World} (hr : (Builtin.append_ #[t, t] ty #[v, .slice (some a) m c]).run P w = .ok v' w') : v'.ownBlock = v.ownBlock ∨ v'.ownBlock = some w.heap.size := by
 subst hsize
 subst hby
 simp only [maxLen] at h63
 rcases hown.2 with ⟨rfl, h0⟩ | ⟨g, cap, cur, rfl, hbg, hg, hnc, hcm, hcs, htake⟩
 ·have := run_append_nil (P := P) w t ty e i z ht hi hz a m c news hl hnews (by omega) (by omega) (by subst h0; simp at hbytes; omega)
  rw [hr] at this
  injection this with e1 e2
  subst e1
  exact .inr rfl
 ·by_cases hroom : n + m ≤ cap
  ·have hfit : n * i.size + news.length ≤ cur.size := by rw [hl, hcs, ← Nat.add_mul]; exact Nat.mul_le_mul_right _ hroom
   have := run_append_room (P := P) w t ty e i ht hi g n cap cur hg a m c news hl hnews h1 hroom hfit
   rw [hr] at this
   injection this with e1 e2
   subst e1
   exact .inl rfl
  ·have := run_append_grow (P := P) w t ty e i z ht hi hz ⟨g, 0, none⟩ n cap xs hown.1 (hown.cells (g := g) rfl) a m c news hl hnews (by omega) (by omega) (growslice_fits (by omega) hbytes)
   rw [hr] at this
   injection this with e1 e2
   subst e1
   exact .inr rfl
theorem wpList_append_blk {ops : Array Oper} {rest : List Oper} {o : Oper} {a : Act} {Q : Exit → Act → World → Prop} (hgd : o.guard = none) (s x : Operand) (t : TypeId)
  (ho : o.op = .call { callee := .builtin .append, args := #[s, x], argTypes := #[t, t] })
  (base : Nat) (e : TypeId) (i : TypeInfo) (z : Value) (size bytes : Nat) (ht : P.underlying t = some (.slice e)) (hi : P.info? e = some i) (hz : i.zero = some z)
  (hsize : i.size = size) (hby : i.bytes = bytes) (hzs : z.cells.size = size) (hsz : 0 < size)
  (v : Value) (n : Nat) (xs : List Value) (hs : a.eval s = v) (hown : w.ownsRow base e size v n xs)
  (ad : Addr) (m c : Nat) (news : List Value) (hm : 0 < m) (hx : a.eval x = .slice (some ad) m c) (hl : news.length = m * size) (hnews : ∀ j u, news[j]? = some u → w.cell? (ad.add j) = some u) (h1 : ∀ u ∈ news, u.oneCell' = true)
  (h63 : n + m ≤ maxLen) (hbytes : (n + m) * bytes ≤ 140737488355328) (hbase : base ≤ w.heap.size)
  (h : ∀ v' w', w'.ownsRow base e size v' (n + m) (xs ++ news) → w.grownBy w' v.ownBlock → (v'.ownBlock = v.ownBlock ∨ v'.ownBlock = some w.heap.size) → wpList P ops Q rest (a.put o.dst v') w') : wpList P ops Q (o :: rest) a w := by
 obtain ⟨v', w', hr, h2, h3, h4⟩ := run_append_own (P := P) w base t o.type e i z size bytes ht hi hz hsize hby hzs hsz v n xs hown ad m c news hl hnews h1 h63 hbytes hbase
 have hbk := app_block_gen (P := P) w base t o.type e i z size bytes ht hi hz hsize hby v n xs hown ad m c news hm hl hnews h1 h63 hbytes hr
 refine wpList_plain hgd fun K hK => ?_
 unfold Oper.wp execOp
 simp only [ho, resolve, invoke, builtin, Sem.run_bind, Sem.run_pure, Result.andThen_ok, List.map_toArray, List.map_cons, List.map_nil, hs, hx, hr]
 exact hK _ _ (h v' w' h2 h3 hbk)
theorem wpList_app_one {ops : Array Oper} {rest : List Oper} {o : Oper} {a : Act} {Q : Exit → Act → World → Prop} (hgd : o.guard = none) (s x : Operand) (t : TypeId)
  (ho : o.op = .call { callee := .builtin .append, args := #[s, x], argTypes := #[t, t] })
  (base : Nat) (e : TypeId) (i : TypeInfo) (z : Value) (size bytes : Nat) (ht : P.underlying t = some (.slice e)) (hi : P.info? e = some i) (hz : i.zero = some z)
  (hsize : i.size = size) (hby : i.bytes = bytes) (hzs : z.cells.size = size) (hsz : 0 < size)
  (v : Value) (n : Nat) (xs : List Value) (hs : a.eval s = v) (hown : w.ownsRow base e size v n xs)
  (news : List Value) {nb : Nat} (hx : a.eval x = .slice (some ⟨nb, 0, none⟩) 1 1) (hnb : nb = w.heap.size) (hl : news.length = size) (h1 : ∀ u ∈ news, u.oneCell' = true)
  (h63 : n + 1 ≤ maxLen) (hbytes : (n + 1) * bytes ≤ 140737488355328) (hbase : base ≤ w.heap.size)
  (h : ∀ v' w', w'.ownsRow base e size v' (n + 1) (xs ++ news) → w.grownBy w' v.ownBlock → (∀ q, v'.ownBlock = some q → v.ownBlock = some q ∨ w.heap.size ≤ q) → wpList P ops Q rest (a.put o.dst v') w') : wpList P ops Q (o :: rest) a (w.alloc (.cells news.toArray e)) := by
 subst hnb
 have hg := World.grownBy_alloc w (.cells news.toArray e) none
 have ea : ∀ b o j : Nat, (⟨b, o, none⟩ : Addr).add j = ⟨b, o + j, none⟩ := fun b o j => by simp [Addr.add]
 refine wpList_append_blk (P := P) _ hgd s x t ho base e i z size bytes ht hi hz hsize hby hzs hsz v n xs hs (World.ownsRow.alloc hown _) ⟨w.heap.size, 0, none⟩ 1 1 news (by decide) hx (by omega)
  (by intro j u hj; rw [ea, Nat.zero_add, World.cell?_alloc_new]; simpa using hj) h1 h63 hbytes (by simp; omega) ?_
 intro v' w' h2 h3 hq
 refine h v' w' h2 (grown_trans (grown_noneR _ hg) h3) (fun q hv => ?_)
 rcases hq with e' | e'
 ·exact .inl (e' ▸ hv)
 ·rw [e'] at hv; simp at hv; exact .inr (by omega)
end
end Go.Proofs.YtpcgkggpmipiaaaGreat
namespace Go.Proofs.YtpcgkggpmipiaaaGreat
set_option maxRecDepth 100000
set_option maxHeartbeats 32000000
open Go.RowKit
set_option linter.unusedVariables false
def IntB (w : World) (b : Nat) : Prop := ∃ cur, w.heap[b]? = some (.cells cur 3 (0, 0))
theorem IntB.lt {w : World} {b : Nat} (h : IntB w b) : b < w.heap.size := by obtain ⟨cur, h⟩ := h; exact (Array.getElem?_eq_some_iff.1 h).1
theorem IntB.ch {w w' : World} {b : Nat} {l : List Nat} (h : IntB w b) (hg : Ch w w' l) (hb : b ∉ l) : IntB w' b := by
 have hl := h.lt
 obtain ⟨cur, h⟩ := h
 exact ⟨cur, (hg.block b hl hb).trans h⟩
theorem NumIn.grow {N : Nat} {w w' : World} {a : Option Addr} {n c : Nat} {M : Nat → Int} (h : NumIn N w a n c M) (hg : w.grownBy w' none) : NumIn N w' a n c M := h.ch (l := []) (Ch.of hg) (by simp)
theorem OwnZ.numIn {w : World} {base : Nat} {v : Value} {l : List Int} {M : Nat → Int} {n : Nat} (h : OwnZ w base v l) (hn : l.length = n) (hM : ∀ i, i < n → l.getD i 0 = M i) : ∃ a c, v = .slice a n c ∧ NumIn w.heap.size w a n c M := by
 subst hn
 obtain ⟨a, c, rfl, h1, h2, h3⟩ := h.slice
 refine ⟨a, c, rfl, h1, h2, ?_⟩
 by_cases h0 : l.length = 0
 ·exact .inl h0
 ·obtain ⟨T, rfl, _, hT⟩ := h3 (by omega)
  exact .inr ⟨T, 0, rfl, hT, fun i hi => by rw [Nat.zero_add, ← hM i hi]; exact h.n.cell hi⟩
theorem cells_new {w : World} (c : Array Value) (t : TypeId) {b : Nat} (hb : b = w.heap.size) (j : Nat) : (w.alloc (.cells c t)).cell? ⟨b, j, none⟩ = c[j]? := by subst hb; exact World.cell?_alloc_new _ _ _ _
theorem fzs_new {w : World} (c : Array Value) (t : TypeId) {b : Nat} (hb : b = w.heap.size) (j : Nat) : (w.alloc (.cells c t)).frozen? ⟨b, j, none⟩ = false := by subst hb; simp
theorem copyNums_any {N : Nat} {w : World} {a : Option Addr} {n c : Nat} {M : Nat → Int} (h : NumIn N w a n c M) (hz : a = none → n = 0 ∧ c = 0) (hf : n * 8 ≤ reachBytes) :
  Calls Tryz.prog 86 #[.slice a n c] w fun e w' => ∃ a' c', e = .returned (.slice a' n c') ∧ NumIn w'.heap.size w' a' n c' M ∧ (a' = none → n = 0 ∧ c' = 0) ∧ (∀ b o, a' = some ⟨b, o, none⟩ → w.heap.size ≤ b ∧ IntB w' b) ∧ w.grownBy w' none := by
 obtain ⟨i, hi, hz0, hz1, hz2⟩ := info_parts info_int
 have hf' : n * 8 ≤ 140737488351232 := hf
 have hle := h.le
 have hmx := h.max
 have hmx' := h.max
 unfold maxLen at hmx
 cases a with
 | none =>
  obtain ⟨rfl, rfl⟩ := hz rfl
  go_enter Tryz.func86, Tryz.ntmps86
  go_wp2_with (at_builtin; refine wpList_append_own_none rfl _ _ 48 rfl w.heap.size 3 i 1 Tryz.underlying48 hi (.slice none 0 0) 0 [] rfl (World.ownsRow_nil _ _ _ _) rfl ?_)
  go_ret
  exact ⟨none, 0, rfl, ⟨Nat.le_refl _, Nat.zero_le _, .inl rfl⟩, fun _ => by simp, (fun b o e => by cases e), gr0⟩
 | some ad =>
  have HL : Hid (∀ j u, (((List.range n).map M).map (Value.int .i64))[j]? = some u → w.cell? (ad.add j) = some u) := by
   intro j u hj
   have hjn : j < n := by have := (List.getElem?_eq_some_iff.1 hj).1; simpa using this
   obtain ⟨b, off, e, _, hc⟩ := h.at hjn
   injection e with e
   subst e
   rw [addr_add, hc, ← hj]
   simp [hjn]
  have hl : (((List.range n).map M).map (Value.int .i64)).length = n * 1 := by simp
  have h1c : ∀ u ∈ ((List.range n).map M).map (Value.int .i64), u.oneCell' = true := by intro y hy; obtain ⟨z, _, rfl⟩ := List.mem_map.mp hy; rfl
  obtain ⟨Z, hZ⟩ : ∃ Z, Z = ((List.range n).map M).map (Value.int .i64) := ⟨_, rfl⟩
  rw [← hZ] at HL hl h1c
  have HZ : Hid (Z = ((List.range n).map M).map (Value.int .i64)) := hZ
  clear h hZ hz
  go_enter Tryz.func86, Tryz.ntmps86
  go_wp2_with (at_builtin; refine wpList_append_own _ rfl _ _ 48 rfl w.heap.size 3 i (.int .i64 0) 1 8 Tryz.underlying48 hi hz0 hz1 hz2 rfl (by decide) (.slice none 0 0) 0 [] rfl (World.ownsRow_nil _ _ _ _) ad n c Z rfl hl HL.out h1c (by unfold maxLen; omega) (by omega) (Nat.le_refl _) ?_; intro v' w2 ho2 hg2 hv2)
  go_ret
  have ho : OwnZ w2 w.heap.size v' ((List.range n).map M) := by
   unfold OwnZ
   rw [List.length_map, List.length_range, ← HZ.out]
   simpa using ho2
  obtain ⟨a', c', rfl, hN⟩ := ho.numIn (M := M) (n := n) (by simp) (fun i hi => by simp [List.getD_eq_getElem?_getD, hi])
  refine ⟨a', c', rfl, hN, fun e => ?_, fun b o e => ?_, hg2⟩
  rotate_left
  ·subst e
   rcases ho.2 with ⟨e, h0⟩ | ⟨T5, c5, cur, e, hb5, hg5, _⟩
   ·cases e
   ·injection e with e1 e2 e3
    injection e1 with e1
    injection e1 with e1
    subst e1
    exact ⟨hb5, cur, hg5⟩
  subst e
  rcases ho.2 with ⟨e, h0⟩ | ⟨T5, c5, cur, e, _⟩
  ·injection e with e1 e2 e3
   exact ⟨by simpa using h0, e3⟩
  ·cases e
end Go.Proofs.YtpcgkggpmipiaaaGreat
namespace Go.Proofs.YtpcgkggpmipiaaaGreat
open Go.RowKit
set_option linter.unusedVariables false
theorem flat_at {E : Type} {cells : E → List Value} {size : Nat} (hs : ∀ e, (cells e).length = size) : ∀ (L : List E) (i j : Nat) (hi : i < L.length), j < size → (L.flatMap cells)[i * size + j]? = (cells L[i])[j]?
 | [], i, j, hi, _ => by simp at hi
 | e :: L, 0, j, _, hj => by
  rw [List.flatMap_cons, List.getElem?_append_left (by rw [hs]; omega)]
  simp
 | e :: L, i + 1, j, hi, hj => by
  rw [List.flatMap_cons, List.getElem?_append_right (by rw [hs, Nat.succ_mul]; omega), hs, show (i + 1) * size + j - size = i * size + j by rw [Nat.succ_mul]; omega]
  exact flat_at hs L i j (by simpa using hi) hj
theorem flat_len {E : Type} {cells : E → List Value} {size : Nat} (hs : ∀ e, (cells e).length = size) (L : List E) : (L.flatMap cells).length = L.length * size := by
 induction L with
 | nil => simp
 | cons e L ih => rw [List.flatMap_cons, List.length_append, ih, hs, List.length_cons, Nat.succ_mul]; omega
theorem grown_cho {w w' : World} {row : Option Nat} (h : w.grownBy w' row) : Ch w w' row.toList := ⟨h.os, h.tape, h.output, h.size, fun k hk hn => h.block k hk (by intro e; subst e; simp at hn)⟩
structure CopG {E : Type} (ty : TypeId) (size : Nat) (cells : E → List Value) (In : (Nat → Prop) → World → E → Prop) (w wr : World) (k : Nat) (v : Value) (L : List E) : Prop where
 own : wr.ownsRow w.heap.size ty size v L.length (L.flatMap cells)
 len : L.length = k
 ent : ∀ (i : Nat) (e : E), L[i]? = some e → In (fun q => w.heap.size ≤ q ∧ q < wr.heap.size ∧ v.ownBlock ≠ some q) wr e
 gr : w.grownBy wr none
def InCh {E : Type} (In : (Nat → Prop) → World → E → Prop) : Prop := ∀ {B B' : Nat → Prop} {W W' : World} {l : List Nat} {e : E}, In B W e → Ch W W' l → (∀ q, B q → q ∉ l) → (∀ q, B q → B' q) → In B' W' e
theorem CopG.step {E : Type} {ty : TypeId} {size : Nat} {cells : E → List Value} {In : (Nat → Prop) → World → E → Prop} (hIn : InCh In) {w wr w4 w6 : World} {k : Nat} {v v6 : Value} {L : List E} (h : CopG ty size cells In w wr k v L) (g4 : wr.grownBy w4 none)
  {e : E} (he : In (fun q => wr.heap.size ≤ q ∧ q < w4.heap.size) w4 e) (o6 : w6.ownsRow w.heap.size ty size v6 (L.length + 1) (L.flatMap cells ++ cells e)) (g6 : w4.grownBy w6 v.ownBlock) (b6 : ∀ q, v6.ownBlock = some q → v.ownBlock = some q ∨ w4.heap.size ≤ q) :
  CopG ty size cells In w w6 (k + 1) v6 (L ++ [e]) := by
 have s0 := h.gr.size
 have s4 := g4.size
 have s6 := g6.size
 have c6 := grown_cho g6
 have hb : ∀ q, v.ownBlock = some q → w.heap.size ≤ q ∧ q < wr.heap.size := fun q hq => World.ownsRow.lt h.own q hq
 refine ⟨?_, by simp [h.len], fun i x hx => ?_, ?_⟩
 ·rw [List.length_append, List.flatMap_append]
  simpa using o6
 ·by_cases hi : i < L.length
  ·rw [List.getElem?_append_left hi] at hx
   have h1 := h.ent i x hx
   refine hIn (hIn h1 (Ch.of (l := []) g4) (by simp) (B' := fun q => w.heap.size ≤ q ∧ q < wr.heap.size ∧ v.ownBlock ≠ some q) (fun _ h => h)) c6 (fun q hq hm => hq.2.2 (by simpa using hm)) (fun q hq => ⟨hq.1, by omega, fun hf => ?_⟩)
   rcases b6 q hf with h5 | h5
   ·exact hq.2.2 h5
   ·omega
  ·have hik : i = L.length := by
    have := (List.getElem?_eq_some_iff.1 hx).1
    simp at this
    omega
   subst hik
   rw [List.getElem?_append_right (Nat.le_refl _)] at hx
   simp at hx
   subst hx
   refine hIn he c6 (fun q hq hm => ?_) (fun q hq => ⟨by omega, by omega, fun hf => ?_⟩)
   ·have := (hb q (by simpa using hm)).2
    omega
   ·rcases b6 q hf with h5 | h5
    ·have := (hb q h5).2
     omega
    ·omega
 ·exact ((Ch.of (l := v.ownBlock.toList) (grown_trans h.gr g4)).trans c6).nil (fun q hq => (hb q (by simpa using hq)).1)
theorem CopG.start {E : Type} (ty : TypeId) (size : Nat) (cells : E → List Value) (In : (Nat → Prop) → World → E → Prop) (w : World) : CopG ty size cells In w w 0 (.slice none 0 0) [] := ⟨World.ownsRow_nil _ _ _ _, rfl, (fun i e h => by simp at h), World.grownBy.refl _ _⟩
theorem CopG.row {α E : Type} {ty : TypeId} {size by' : Nat} {cells : E → List Value} {In : (Nat → Prop) → World → E → Prop} (hs : ∀ e, (cells e).length = size) {w wr : World} {k : Nat} {v : Value} {L : List E} (h : CopG ty size cells In w wr k v L) (hk : k * by' ≤ reachBytes) (val : E → α) (Q : Nat → Nat → α → Prop)
  (hQ : ∀ (b o : Nat) (e : E), (∀ j u, (cells e)[j]? = some u → wr.cell? ⟨b, o + j, none⟩ = some u) → In (fun q => w.heap.size ≤ q ∧ q < wr.heap.size) wr e → Q b o (val e)) (hm : ∀ e, In (fun q => w.heap.size ≤ q ∧ q < wr.heap.size ∧ v.ownBlock ≠ some q) wr e → In (fun q => w.heap.size ≤ q ∧ q < wr.heap.size) wr e) :
  ∃ a c, v = .slice a k c ∧ RowL size by' (fun q => w.heap.size ≤ q ∧ q < wr.heap.size) Q a c (L.map val) := by
 have hl := h.len
 subst hl
 rcases h.own.2 with ⟨rfl, h0⟩ | ⟨g, c, cur, rfl, hb, hg, hc, hcm, _⟩
 ·have hn : L = [] := List.length_eq_zero_iff.1 h0
  subst hn
  exact ⟨none, 0, rfl, fun _ => ⟨rfl, rfl⟩, Nat.le_refl _, Nat.zero_le _, by simp, .inl rfl⟩
 ·refine ⟨_, c, rfl, (fun h => by cases h), by simpa using hc, hcm, by simpa using hk, .inr ⟨g, 0, rfl, ⟨hb, (World.ownsRow.lt h.own g rfl).2⟩, fun i x hx => ?_⟩⟩
  rw [List.getElem?_map] at hx
  obtain ⟨e, he, rfl⟩ := Option.map_eq_some_iff.1 hx
  have hi : i < L.length := (List.getElem?_eq_some_iff.1 he).1
  have hee : L[i] = e := (List.getElem?_eq_some_iff.1 he).2
  refine hQ _ _ _ (fun j u hu => ?_) (hm _ (h.ent i e he))
  have hj : j < size := by rw [← hs e]; exact (List.getElem?_eq_some_iff.1 hu).1
  rw [Nat.zero_add, World.ownsRow.cellAt h.own (i * size + j) (by
   have : (i + 1) * size ≤ L.length * size := Nat.mul_le_mul_right _ hi
   rw [Nat.succ_mul] at this
   omega), flat_at hs L i j hi hj, hee]
  exact hu
end Go.Proofs.YtpcgkggpmipiaaaGreat
namespace Go.Proofs.YtpcgkggpmipiaaaGreat
set_option maxRecDepth 100000
set_option maxHeartbeats 32000000
open Go.RowKit
set_option linter.unusedVariables false
theorem frozenK {w w' : World} {l : List Nat} (h : Ch w w' l) {b k : Nat} (hlt : b < w.heap.size) (hb : b ∉ l) (hf : w.frozen? ⟨b, k, none⟩ = false) : w'.frozen? ⟨b, k, none⟩ = false := by
 have := h.block b hlt hb
 simp only [World.frozen?] at hf ⊢
 rw [this]
 exact hf
abbrev Fresh (w w' : World) : Nat → Prop := fun q => w.heap.size ≤ q ∧ q < w'.heap.size
structure EE where
 x : Pg.Ex
 a : Option Addr
 c : Nat
def cellsE (e : EE) : List Value := [.int .i64 e.x.op, .int .i64 e.x.t, .int .i64 e.x.n, .string e.x.s, .slice e.a e.x.args.length e.c]
def InE (B : Nat → Prop) (W : World) (e : EE) : Prop := ExL B W e.a e.c e.x.args ∧ R64 e.x.n ∧ e.x.s.size ≤ reachBytes
theorem inE_ch : InCh InE := fun h hg hl hB => ⟨ExL.ch h.1 hg hl hB, h.2⟩
def CpE (l : List Pg.Ex) : Prop := ∀ (B : Nat → Prop) (w : World) (a : Option Addr) (c : Nat), ExL B w a c l →
 Calls Tryz.prog 46 #[.slice a l.length c] w fun e w' => ∃ a' c', e = .returned (.slice a' l.length c') ∧ ExL (Fresh w w') w' a' c' l ∧ w.grownBy w' none
theorem copyExpr_any {B : Nat → Prop} {w : World} {x : Pg.Ex} {a : Option Addr} {c : Nat} (ih : CpE x.args) (h : ExL B w a c x.args) :
  Calls Tryz.prog 20 #[.agg #[.int .i64 x.op, .int .i64 x.t, .int .i64 x.n, .string x.s, .slice a x.args.length c]] w fun e w' => ∃ a' c', e = .returned (.agg #[.int .i64 x.op, .int .i64 x.t, .int .i64 x.n, .string x.s, .slice a' x.args.length c']) ∧ ExL (Fresh w w') w' a' c' x.args ∧ w.grownBy w' none := by
 obtain ⟨C, hC⟩ : ∃ C : Array Value, C = #[.int .i64 x.op, .int .i64 x.t, .int .i64 x.n, .string x.s, .slice a x.args.length c] := ⟨_, rfl⟩
 obtain ⟨W3, hW3⟩ : ∃ W3, W3 = ((w.alloc (.cells #[.int .i64 x.op, .int .i64 x.t, .int .i64 x.n, .string x.s, .slice a x.args.length c] 45)).alloc (.cells #[.int .i64 0, .int .i64 0, .int .i64 0, .string ⟨#[]⟩, .slice none 0 0] 45)).alloc (.cells #[.int .i64 x.op, .int .i64 x.t, .int .i64 x.n, .string x.s, .slice a x.args.length c] 45) := ⟨_, rfl⟩
 have hg3 : w.grownBy W3 none := by rw [hW3]; exact ga (ga (World.grownBy_alloc _ _ _) _) _
 have hs3 : W3.heap.size = w.heap.size + 3 := by rw [hW3]; simp
 have HC : Hid (Calls Tryz.prog 46 #[.slice a x.args.length c] W3 fun e w' => ∃ a' c', e = .returned (.slice a' x.args.length c') ∧ ExL (Fresh W3 w') w' a' c' x.args ∧ W3.grownBy w' none) := ih B W3 a c (ExL.grow h hg3)
 have HG3 : Hid (w.grownBy W3 none) := hg3
 have HW3 : Hid (W3 = ((w.alloc (.cells #[.int .i64 x.op, .int .i64 x.t, .int .i64 x.n, .string x.s, .slice a x.args.length c] 45)).alloc (.cells #[.int .i64 0, .int .i64 0, .int .i64 0, .string ⟨#[]⟩, .slice none 0 0] 45)).alloc (.cells #[.int .i64 x.op, .int .i64 x.t, .int .i64 x.n, .string x.s, .slice a x.args.length c] 45)) := hW3
 have K : Hid ((∀ j v, (#[.int .i64 x.op, .int .i64 x.t, .int .i64 x.n, .string x.s, .slice a x.args.length c] : Array Value)[j]? = some v → W3.cell? ⟨w.heap.size + 2, j, none⟩ = some v) ∧ (∀ q, W3.frozen? ⟨w.heap.size + 2, q, none⟩ = false) ∧ (∀ j v, (#[.int .i64 0, .int .i64 0, .int .i64 0, .string ⟨#[]⟩, .slice none 0 0] : Array Value)[j]? = some v → W3.cell? ⟨w.heap.size + 1, j, none⟩ = some v) ∧ (∀ q, W3.frozen? ⟨w.heap.size + 1, q, none⟩ = false)) := by
  rw [hW3]
  refine ⟨fun j v hv => ?_, fun q => ?_, fun j v hv => ?_, fun q => ?_⟩
  ·rw [← hv]; exact cells_new _ _ (by simp) _
  ·exact fzs_new _ _ (by simp) _
  ·exact (Ch.of (l := []) (World.grownBy_alloc _ _ _)).cell ((cells_new _ _ (by simp) _).trans hv) (by simp)
  ·exact frozenK (l := []) (Ch.of (World.grownBy_alloc _ _ _)) (by simp) (by simp) (fzs_new _ _ (by simp) _)
 clear h hg3 hW3 hC
 go_enter Tryz.func20, Tryz.ntmps20
 go_wp2_with (go_at_call 46; rw [← HW3.out]; refine HC.out.mono ?_; rintro e w4 ⟨a', c', rfl, hN4, hg4⟩; have HN4 : Hid (ExL (Fresh W3 w4) w4 a' c' x.args ∧ W3.grownBy w4 none) := ⟨hN4, hg4⟩; have c4 := Ch.of (l := []) hg4; have k0 := c4.cell (K.out.1 0 _ rfl) (by simp); have k1 := c4.cell (K.out.1 1 _ rfl) (by simp); have k2 := c4.cell (K.out.1 2 _ rfl) (by simp); have k3 := c4.cell (K.out.1 3 _ rfl) (by simp); have k4 := c4.cell (K.out.1 4 _ rfl) (by simp); have z4 := frozenK c4 (by omega) (by simp) (K.out.2.1 4); have r0 := c4.cell (K.out.2.2.1 0 _ rfl) (by simp); have r1 := c4.cell (K.out.2.2.1 1 _ rfl) (by simp); have r2 := c4.cell (K.out.2.2.1 2 _ rfl) (by simp); have r3 := c4.cell (K.out.2.2.1 3 _ rfl) (by simp); have r4 := c4.cell (K.out.2.2.1 4 _ rfl) (by simp); have y0 := frozenK c4 (by omega) (by simp) (K.out.2.2.2 0); have y1 := frozenK c4 (by omega) (by simp) (K.out.2.2.2 1); have y2 := frozenK c4 (by omega) (by simp) (K.out.2.2.2 2); have y3 := frozenK c4 (by omega) (by simp) (K.out.2.2.2 3); have y4 := frozenK c4 (by omega) (by simp) (K.out.2.2.2 4); clear hN4 hg4 c4)
 refine bodyPost_ret (by simp [results, Tryz.results20, go_sem, r0, r1, r2, r3, r4]; try rfl) rfl ?_
 generalize hw9 : World.setCell (World.setCell _ _ _) _ _ = w9
 have c9 : Ch w4 w9 [w.heap.size + 1, w.heap.size + 2] := by
  rw [← hw9]
  exact (((((Ch.one (grown_set _ _ _ _) (by simp)).trans (Ch.one (grown_set _ _ _ _) (by simp))).trans (Ch.one (grown_set _ _ _ _) (by simp))).trans (Ch.one (grown_set _ _ _ _) (by simp))).trans (Ch.one (grown_set _ _ _ _) (by simp))).trans (Ch.one (grown_set _ _ _ _) (by simp))
 have s4 := HN4.out.2.size
 have s9 := c9.size
 refine ⟨a', c', rfl, ExL.ch HN4.out.1 c9 (fun q hq => by have := hq.1; simp; omega) (fun q hq => ⟨by have := hq.1; omega, by have := hq.2; omega⟩), ?_⟩
 exact ((Ch.of (grown_trans HG3.out HN4.out.2)).trans c9).nil (by simp)
theorem info_ex : (Tryz.prog.info? 45).map (fun i => (i.zero, i.size, i.bytes)) = some (some (.agg #[.int .i64 0, .int .i64 0, .int .i64 0, .string ⟨#[]⟩, .slice none 0 0]), 5, 64) := by kernel_rfl
theorem wp_appEx {ops : Array Oper} {rest : List Oper} {o : Oper} {a : Act} {Q : Exit → Act → World → Prop} {W : World} (hgd : o.guard = none) (s y : Operand)
  (ho : o.op = .call { callee := .builtin .append, args := #[s, y], argTypes := #[43, 43] }) (base : Nat) (v : Value) (L : List EE) (e : EE) (hs : a.eval s = v) (hown : W.ownsRow base 45 5 v L.length (L.flatMap cellsE))
  {nb : Nat} (hx : a.eval y = .slice (some ⟨nb, 0, none⟩) 1 1) (hnb : nb = W.heap.size) (hl : (L.length + 1) * 64 ≤ 140737488351232) (hb : base ≤ W.heap.size)
  (h : ∀ v' w', w'.ownsRow base 45 5 v' (L.length + 1) (L.flatMap cellsE ++ cellsE e) → W.grownBy w' v.ownBlock → (∀ q, v'.ownBlock = some q → v.ownBlock = some q ∨ W.heap.size ≤ q) → wpList Tryz.prog ops Q rest (a.put o.dst v') w') :
  wpList Tryz.prog ops Q (o :: rest) a (W.alloc (Obj.cells #[.int .i64 e.x.op, .int .i64 e.x.t, .int .i64 e.x.n, .string e.x.s, .slice e.a e.x.args.length e.c] 45)) := by
 obtain ⟨i, hi, hz0, hz1, hz2⟩ := info_parts info_ex
 exact wpList_app_one (P := Tryz.prog) W hgd s y 43 ho base 45 i _ 5 64 Tryz.underlying43 hi hz0 hz1 hz2 rfl (by decide) v L.length _ hs hown (cellsE e) hx hnb rfl (by intro u hu; simp [cellsE] at hu; rcases hu with rfl | rfl | rfl | rfl | rfl <;> rfl) (by unfold maxLen; omega) (by omega) hb h
theorem copyExprs_list (l : List Pg.Ex) (ih : ∀ x, x ∈ l → CpE x.args) : CpE l := by
 intro B w a c h
 have hle := h.le
 have hmx := h.max
 have hfi : l.length * 64 ≤ 140737488351232 := h.fits
 unfold maxLen at hmx
 have HL : Hid (ExL B w a c l) := h
 have HI : Hid (∀ x, x ∈ l → CpE x.args) := ih
 clear h ih
 go_enter Tryz.func46, Tryz.ntmps46
 go_wp2_with fail
 go_loopw [3, 4] (fun v ix wr => ∃ (k : Nat) (L : List EE), ix = .int .i64 k ∧ k ≤ l.length ∧ L.map EE.x = l.take k ∧ CopG 45 5 cellsE InE w wr k v L) (fun _ ix _ => l.length - (intOf ix).toNat)
 case atStart => exact ⟨0, [], rfl, Nat.zero_le _, rfl, CopG.start _ _ _ _ _⟩
 case round =>
  obtain ⟨k, L, rfl, hk, hm, hc⟩ := hrel
  have HC : Hid (CopG 45 5 cellsE InE w wr k _ L) := hc
  have HM : Hid (L.map EE.x = l.take k) := hm
  clear hm
  by_cases hkn : k < l.length
  ·have hkn' : (k : Int) < l.length := by omega
   obtain ⟨b, o, rfl, hb, hx⟩ := (ExL.grow HL.out hc.gr).at hkn
   obtain ⟨a4, k4, he⟩ := hx.row
   have HCp := copyExpr_any (HI.out l[k] (List.getElem_mem hkn)) he.args
   have hR : R64 l[k].n ∧ l[k].s.size ≤ reachBytes := ⟨he.rg, he.sz⟩
   have c0 := he.c0
   have c1 := he.c1
   have c2 := he.c2
   have c3 := he.c3
   have c4 := he.c4
   have hlen := hc.len
   have hsz := hc.gr.size
   clear hx he hc
   have HT : Hid (l.take (k + 1) = l.take k ++ [l[k]]) := List.take_succ_eq_append_getElem hkn
   generalize l[k] = x at *
   have HR : Hid (R64 x.n ∧ x.s.size ≤ reachBytes) := hR
   have HCp : Hid (Calls Tryz.prog 20 #[.agg #[.int .i64 x.op, .int .i64 x.t, .int .i64 x.n, .string x.s, .slice a4 x.args.length k4]] wr fun e w' => ∃ a' c', e = .returned (.agg #[.int .i64 x.op, .int .i64 x.t, .int .i64 x.n, .string x.s, .slice a' x.args.length c']) ∧ ExL (Fresh wr w') w' a' c' x.args ∧ wr.grownBy w' none) := HCp
   clear hR
   go_wp2_with (first
    | (go_at_call 20; refine HCp.out.mono ?_; rintro e w4 ⟨a', c', rfl, hN4, hg4⟩; have H4 : Hid (ExL (Fresh wr w4) w4 a' c' x.args ∧ wr.grownBy w4 none) := ⟨hN4, hg4⟩; have hs4 := hg4.size; clear hN4 hg4)
    | (at_builtin; refine wp_appEx rfl _ _ rfl w.heap.size u3 L ⟨x, a', c'⟩ rfl (World.ownsRow.kept HC.out.own H4.out.2 (Classical.em _)) rfl rfl (by omega) (by omega) ?_; intro v6 w6 o6 g6 b6))
   go_roundw
   case rel => exact ⟨k + 1, L ++ [⟨x, a', c'⟩], by go_num, by omega, by rw [List.map_append, HM.out, HT.out]; rfl, CopG.step (In := InE) @inE_ch HC.out H4.out.2 ⟨H4.out.1, HR.out⟩ o6 g6 b6⟩
   case measure => simp [intOf]; omega
  ·obtain rfl : k = l.length := by omega
   obtain ⟨a1, c1, rfl, hT1⟩ := CopG.row (cells := cellsE) (In := InE) (by' := 64) (fun e => rfl) hc hfi EE.x (ExAt (Fresh w wr) wr) (fun b o e hcc hin => ExC.at ⟨hcc 0 _ rfl, hcc 1 _ rfl, hcc 2 _ rfl, hcc 3 _ rfl, hcc 4 _ rfl, hin.2.1, hin.2.2, hin.1⟩) (fun e he => @inE_ch _ _ _ _ [] _ he (Ch.refl _ _) (by simp) (fun q hq => ⟨hq.1, hq.2.1⟩))
   rw [HM.out, List.take_length] at hT1
   have HT1 : Hid (ExL (Fresh w wr) wr a1 c1 l) := hT1
   clear hc hT1
   go_wp2
   go_ret
   exact ⟨a1, c1, rfl, HT1.out, HC.out.gr⟩
theorem copyExprs_any (l : List Pg.Ex) : CpE l := copyExprs_list l fun x _ => Pg.Ex.ind (P := fun x => CpE x.args) (fun _ _ _ _ args ih => copyExprs_list args ih) x
theorem NumL.numIn {B : Nat → Prop} {w : World} {a : Option Addr} {c N : Nat} {l : List Int} (h : NumL B w a c l) (hB : ∀ q, B q → q < N) : NumIn N w a l.length c (fun i => l.getD i 0) :=
 ⟨h.le, h.max, by
  rcases h.lie with h0 | ⟨b, o, e, hb, hx⟩
  ·exact .inl (by rw [h0]; rfl)
  ·exact .inr ⟨b, o, e, hB b hb, fun i hi => by
    have := hx i l[i] (List.getElem?_eq_getElem hi)
    rw [Nat.mul_one] at this
    rw [show l.getD i 0 = l[i] from by simp [List.getD_eq_getElem?_getD, hi]]
    exact this⟩⟩
def NumO (B : Nat → Prop) (W : World) (a : Option Addr) (c : Nat) (l : List Int) : Prop := NumL B W a c l ∧ (l ≠ [] → ∀ b o, a = some ⟨b, o, none⟩ → IntB W b)
theorem NumO.ch {B B' : Nat → Prop} {W W' : World} {l : List Nat} {a : Option Addr} {cap : Nat} {xs : List Int} (h : NumO B W a cap xs) (hg : Ch W W' l) (hl : ∀ k, B k → k ∉ l) (hB : ∀ k, B k → B' k) : NumO B' W' a cap xs :=
 ⟨NumL.ch h.1 hg hl hB, fun hn b o e => (h.2 hn b o e).ch hg (by
  rcases h.1.lie with h0 | ⟨b', o', e', hb, _⟩
  ·exact absurd h0 hn
  ·rw [e'] at e
   injection e with e
   injection e with e
   subst e
   exact hl _ hb)⟩
theorem copyNumO {B : Nat → Prop} {w : World} {a : Option Addr} {c : Nat} {l : List Int} (h : NumL B w a c l) (hB : ∀ q, B q → q < w.heap.size) :
  Calls Tryz.prog 86 #[.slice a l.length c] w fun e w' => ∃ a' c', e = .returned (.slice a' l.length c') ∧ NumO (Fresh w w') w' a' c' l ∧ w.grownBy w' none :=
 (copyNums_any (h.numIn hB) (fun e => by have := h.nil e; rw [this.1]; exact ⟨rfl, this.2⟩) h.fits).mono (by
  rintro e w' ⟨a', c', rfl, hn, hz, hf, hg⟩
  refine ⟨a', c', rfl, ⟨⟨fun e => ?_, hn.le, hn.max, h.fits, ?_⟩, fun _ b o e => (hf b o e).2⟩, hg⟩
  ·have := hz e
   exact ⟨List.length_eq_zero_iff.1 this.1, this.2⟩
  ·rcases hn.lie with h0 | ⟨b, o, e, hb, hx⟩
   ·exact .inl (List.length_eq_zero_iff.1 h0)
   ·refine .inr ⟨b, o, e, ⟨(hf b o e).1, hb⟩, fun i x hi => ?_⟩
    have hi' := (List.getElem?_eq_some_iff.1 hi).1
    have := hx i hi'
    rw [Nat.mul_one]
    rw [show l.getD i 0 = x from by simp [List.getD_eq_getElem?_getD, hi]] at this
    exact this)
theorem copyNumL {B : Nat → Prop} {w : World} {a : Option Addr} {c : Nat} {l : List Int} (h : NumL B w a c l) (hB : ∀ q, B q → q < w.heap.size) :
  Calls Tryz.prog 86 #[.slice a l.length c] w fun e w' => ∃ a' c', e = .returned (.slice a' l.length c') ∧ NumL (Fresh w w') w' a' c' l ∧ w.grownBy w' none :=
 (copyNumO h hB).mono (by rintro e w' ⟨a', c', e1, h1, h2⟩; exact ⟨a', c', e1, h1.1, h2⟩)
def CpS (l : List Pg.St) : Prop := ∀ (B : Nat → Prop) (w : World) (a : Option Addr) (c : Nat), (∀ q, B q → q < w.heap.size) → StL B w a c l →
 Calls Tryz.prog 48 #[.slice a l.length c] w fun e w' => ∃ a' c', e = .returned (.slice a' l.length c') ∧ StL (Fresh w w') w' a' c' l ∧ w.grownBy w' none
theorem copyStmt_int {B : Nat → Prop} {w : World} {x : Pg.St} {a1 a2 a3 a4 : Option Addr} {k1 k2 k3 k4 : Nat} (hB : ∀ q, B q → q < w.heap.size) (ih1 : CpS x.a) (ih2 : CpS x.b) (h1 : ExL B w a1 k1 x.args) (h2 : NumL B w a2 k2 x.dst) (h3 : StL B w a3 k3 x.a) (h4 : StL B w a4 k4 x.b) :
  Calls Tryz.prog 85 #[.agg #[.int .i64 x.op, .int .i64 x.n, .slice a1 x.args.length k1, .slice a2 x.dst.length k2, .slice a3 x.a.length k3, .slice a4 x.b.length k4]] w fun e w' => ∃ a1' k1' a2' k2' a3' k3' a4' k4', e = .returned (.agg #[.int .i64 x.op, .int .i64 x.n, .slice a1' x.args.length k1', .slice a2' x.dst.length k2', .slice a3' x.a.length k3', .slice a4' x.b.length k4']) ∧ (∃ u1 u2, ExL (fun q => Fresh w w' q ∧ q < u1) w' a1' k1' x.args ∧ NumO (fun q => Fresh w w' q ∧ u1 ≤ q ∧ q < u2) w' a2' k2' x.dst ∧ StL (fun q => Fresh w w' q ∧ u2 ≤ q) w' a3' k3' x.a ∧ StL (fun q => Fresh w w' q ∧ u2 ≤ q) w' a4' k4' x.b) ∧ w.grownBy w' none := by
 obtain ⟨W3, hW3⟩ : ∃ W3, W3 = ((w.alloc (.cells #[.int .i64 x.op, .int .i64 x.n, .slice a1 x.args.length k1, .slice a2 x.dst.length k2, .slice a3 x.a.length k3, .slice a4 x.b.length k4] 51)).alloc (.cells #[.int .i64 0, .int .i64 0, .slice none 0 0, .slice none 0 0, .slice none 0 0, .slice none 0 0] 51)).alloc (.cells #[.int .i64 x.op, .int .i64 x.n, .slice a1 x.args.length k1, .slice a2 x.dst.length k2, .slice a3 x.a.length k3, .slice a4 x.b.length k4] 51) := ⟨_, rfl⟩
 have hg3 : w.grownBy W3 none := by rw [hW3]; exact ga (ga (World.grownBy_alloc _ _ _) _) _
 have hs3 : W3.heap.size = w.heap.size + 3 := by rw [hW3]; simp
 have H1 : Hid (∀ W, Ch W3 W [w.heap.size + 2] → Calls Tryz.prog 46 #[.slice a1 x.args.length k1] W fun e w' => ∃ a' c', e = .returned (.slice a' x.args.length c') ∧ ExL (Fresh W w') w' a' c' x.args ∧ W.grownBy w' none) := fun W hc => copyExprs_any x.args B W a1 k1 (ExL.ch (ExL.grow h1 hg3) hc (fun q hq => by have := hB q hq; simp; omega) (fun _ h => h))
 have H2 : Hid (∀ W, Ch W3 W [w.heap.size + 2] → Calls Tryz.prog 86 #[.slice a2 x.dst.length k2] W fun e w' => ∃ a' c', e = .returned (.slice a' x.dst.length c') ∧ NumO (Fresh W w') w' a' c' x.dst ∧ W.grownBy w' none) := fun W hc => copyNumO (NumL.ch (NumL.grow h2 hg3) hc (fun q hq => by have := hB q hq; simp; omega) (fun _ h => h)) (fun q hq => Nat.lt_of_lt_of_le (hB q hq) (Nat.le_trans hg3.size hc.size))
 have H3 : Hid (∀ W, Ch W3 W [w.heap.size + 2] → Calls Tryz.prog 48 #[.slice a3 x.a.length k3] W fun e w' => ∃ a' c', e = .returned (.slice a' x.a.length c') ∧ StL (Fresh W w') w' a' c' x.a ∧ W.grownBy w' none) := fun W hc => ih1 B W a3 k3 (fun q hq => Nat.lt_of_lt_of_le (hB q hq) (Nat.le_trans hg3.size hc.size)) (StL.ch (StL.grow h3 hg3) hc (fun q hq => by have := hB q hq; simp; omega) (fun _ h => h))
 have H4 : Hid (∀ W, Ch W3 W [w.heap.size + 2] → Calls Tryz.prog 48 #[.slice a4 x.b.length k4] W fun e w' => ∃ a' c', e = .returned (.slice a' x.b.length c') ∧ StL (Fresh W w') w' a' c' x.b ∧ W.grownBy w' none) := fun W hc => ih2 B W a4 k4 (fun q hq => Nat.lt_of_lt_of_le (hB q hq) (Nat.le_trans hg3.size hc.size)) (StL.ch (StL.grow h4 hg3) hc (fun q hq => by have := hB q hq; simp; omega) (fun _ h => h))
 have HG3 : Hid (w.grownBy W3 none) := hg3
 have HW3 : Hid (W3 = ((w.alloc (.cells #[.int .i64 x.op, .int .i64 x.n, .slice a1 x.args.length k1, .slice a2 x.dst.length k2, .slice a3 x.a.length k3, .slice a4 x.b.length k4] 51)).alloc (.cells #[.int .i64 0, .int .i64 0, .slice none 0 0, .slice none 0 0, .slice none 0 0, .slice none 0 0] 51)).alloc (.cells #[.int .i64 x.op, .int .i64 x.n, .slice a1 x.args.length k1, .slice a2 x.dst.length k2, .slice a3 x.a.length k3, .slice a4 x.b.length k4] 51)) := hW3
 have K : Hid ((∀ j v, (#[.int .i64 x.op, .int .i64 x.n, .slice a1 x.args.length k1, .slice a2 x.dst.length k2, .slice a3 x.a.length k3, .slice a4 x.b.length k4] : Array Value)[j]? = some v → W3.cell? ⟨w.heap.size + 2, j, none⟩ = some v) ∧ (∀ q, W3.frozen? ⟨w.heap.size + 2, q, none⟩ = false) ∧ (∀ j v, (#[.int .i64 0, .int .i64 0, .slice none 0 0, .slice none 0 0, .slice none 0 0, .slice none 0 0] : Array Value)[j]? = some v → W3.cell? ⟨w.heap.size + 1, j, none⟩ = some v) ∧ (∀ q, W3.frozen? ⟨w.heap.size + 1, q, none⟩ = false) ∧ (∀ j v, (#[.int .i64 x.op, .int .i64 x.n, .slice a1 x.args.length k1, .slice a2 x.dst.length k2, .slice a3 x.a.length k3, .slice a4 x.b.length k4] : Array Value)[j]? = some v → W3.cell? ⟨w.heap.size, j, none⟩ = some v)) := by
  rw [hW3]
  refine ⟨fun j v hv => ?_, fun q => ?_, fun j v hv => ?_, fun q => ?_, fun j v hv => ?_⟩
  ·rw [← hv]; exact cells_new _ _ (by simp) _
  ·exact fzs_new _ _ (by simp) _
  ·exact (Ch.of (l := []) (World.grownBy_alloc _ _ _)).cell ((cells_new _ _ (by simp) _).trans hv) (by simp)
  ·exact frozenK (l := []) (Ch.of (World.grownBy_alloc _ _ _)) (by simp) (by simp) (fzs_new _ _ (by simp) _)
  ·exact (Ch.of (l := []) (ga (World.grownBy_alloc _ _ _) _)).cell ((cells_new _ _ rfl _).trans hv) (by simp)
 clear h1 h2 h3 h4 hg3 hW3 hB
 go_enter Tryz.func85, Tryz.ntmps85
 go_wp2_with (first
  | (go_at_call 46; rw [← HW3.out]; refine (H1.out _ (Ch.refl _ _)).mono ?_; rintro e w1 ⟨a1', k1', rfl, hN, hg⟩; have N1 : Hid (ExL (Fresh W3 w1) w1 a1' k1' x.args ∧ W3.grownBy w1 none) := ⟨hN, hg⟩; have D1 : Hid (Ch W3 w1 [w.heap.size + 2]) := (Ch.refl _ _).trans (Ch.of hg); have hz1 := D1.out.size; have m10 := (Ch.of (l := []) hg).cell (K.out.1 0 _ rfl) (by simp); have m11 := (Ch.of (l := []) hg).cell (K.out.1 1 _ rfl) (by simp); have m12 := (Ch.of (l := []) hg).cell (K.out.1 2 _ rfl) (by simp); have m13 := (Ch.of (l := []) hg).cell (K.out.1 3 _ rfl) (by simp); have m14 := (Ch.of (l := []) hg).cell (K.out.1 4 _ rfl) (by simp); have m15 := (Ch.of (l := []) hg).cell (K.out.1 5 _ rfl) (by simp); have Z1 : Hid (∀ q, w1.frozen? ⟨w.heap.size + 2, q, none⟩ = false) := fun q => frozenK (l := []) (Ch.of hg) (by omega) (by simp) (K.out.2.1 q); have z1 := Z1.out 2; have b1 := D1.out.cell (K.out.2.2.2.2 3 _ rfl) (by simp); have C1 : Hid (Ch W3 (w1.setCell ⟨w.heap.size + 2, 2, none⟩ (.slice a1' x.args.length k1')) [w.heap.size + 2]) := D1.out.trans (Ch.one (grown_set _ _ _ _) (by simp)); clear hN hg H1)
  | (go_at_call 86; refine (H2.out _ C1.out).mono ?_; rintro e w2 ⟨a2', k2', rfl, hN, hg⟩; have N2 : Hid (NumO (Fresh (w1.setCell ⟨w.heap.size + 2, 2, none⟩ (.slice a1' x.args.length k1')) w2) w2 a2' k2' x.dst ∧ (w1.setCell ⟨w.heap.size + 2, 2, none⟩ (.slice a1' x.args.length k1')).grownBy w2 none) := ⟨hN, hg⟩; have D2 : Hid (Ch W3 w2 [w.heap.size + 2]) := C1.out.trans (Ch.of hg); have hz2 := D2.out.size; have m20 := (Ch.of (l := []) hg).cell ((World.cell?_setCell_other _ _ _ _ (by simp)).trans m10) (by simp); have m21 := (Ch.of (l := []) hg).cell ((World.cell?_setCell_other _ _ _ _ (by simp)).trans m11) (by simp); have m22 := (Ch.of (l := []) hg).cell (World.cell?_setCell_same _ _ _ m12) (by simp); have m23 := (Ch.of (l := []) hg).cell ((World.cell?_setCell_other _ _ _ _ (by simp)).trans m13) (by simp); have m24 := (Ch.of (l := []) hg).cell ((World.cell?_setCell_other _ _ _ _ (by simp)).trans m14) (by simp); have m25 := (Ch.of (l := []) hg).cell ((World.cell?_setCell_other _ _ _ _ (by simp)).trans m15) (by simp); have Z2 : Hid (∀ q, w2.frozen? ⟨w.heap.size + 2, q, none⟩ = false) := fun q => frozenK (l := []) (Ch.of hg) (by simp; omega) (by simp) (by rw [World.frozen?_setCell]; exact Z1.out q); have z2 := Z2.out 3; have b2 := D2.out.cell (K.out.2.2.2.2 4 _ rfl) (by simp); have C2 : Hid (Ch W3 (w2.setCell ⟨w.heap.size + 2, 3, none⟩ (.slice a2' x.dst.length k2')) [w.heap.size + 2]) := D2.out.trans (Ch.one (grown_set _ _ _ _) (by simp)); clear hN hg H2)
  | (go_at_call 48; refine (H3.out _ C2.out).mono ?_; rintro e w3 ⟨a3', k3', rfl, hN, hg⟩; have N3 : Hid (StL (Fresh (w2.setCell ⟨w.heap.size + 2, 3, none⟩ (.slice a2' x.dst.length k2')) w3) w3 a3' k3' x.a ∧ (w2.setCell ⟨w.heap.size + 2, 3, none⟩ (.slice a2' x.dst.length k2')).grownBy w3 none) := ⟨hN, hg⟩; have D3 : Hid (Ch W3 w3 [w.heap.size + 2]) := C2.out.trans (Ch.of hg); have hz3 := D3.out.size; have m30 := (Ch.of (l := []) hg).cell ((World.cell?_setCell_other _ _ _ _ (by simp)).trans m20) (by simp); have m31 := (Ch.of (l := []) hg).cell ((World.cell?_setCell_other _ _ _ _ (by simp)).trans m21) (by simp); have m32 := (Ch.of (l := []) hg).cell ((World.cell?_setCell_other _ _ _ _ (by simp)).trans m22) (by simp); have m33 := (Ch.of (l := []) hg).cell (World.cell?_setCell_same _ _ _ m23) (by simp); have m34 := (Ch.of (l := []) hg).cell ((World.cell?_setCell_other _ _ _ _ (by simp)).trans m24) (by simp); have m35 := (Ch.of (l := []) hg).cell ((World.cell?_setCell_other _ _ _ _ (by simp)).trans m25) (by simp); have Z3 : Hid (∀ q, w3.frozen? ⟨w.heap.size + 2, q, none⟩ = false) := fun q => frozenK (l := []) (Ch.of hg) (by simp; omega) (by simp) (by rw [World.frozen?_setCell]; exact Z2.out q); have z3 := Z3.out 4; have b3 := D3.out.cell (K.out.2.2.2.2 5 _ rfl) (by simp); have C3 : Hid (Ch W3 (w3.setCell ⟨w.heap.size + 2, 4, none⟩ (.slice a3' x.a.length k3')) [w.heap.size + 2]) := D3.out.trans (Ch.one (grown_set _ _ _ _) (by simp)); clear hN hg H3)
  | (go_at_call 48; refine (H4.out _ C3.out).mono ?_; rintro e w4 ⟨a4', k4', rfl, hN, hg⟩; have N4 : Hid (StL (Fresh (w3.setCell ⟨w.heap.size + 2, 4, none⟩ (.slice a3' x.a.length k3')) w4) w4 a4' k4' x.b ∧ (w3.setCell ⟨w.heap.size + 2, 4, none⟩ (.slice a3' x.a.length k3')).grownBy w4 none) := ⟨hN, hg⟩; have D4 : Hid (Ch W3 w4 [w.heap.size + 2]) := C3.out.trans (Ch.of hg); have hz4 := D4.out.size; have m40 := (Ch.of (l := []) hg).cell ((World.cell?_setCell_other _ _ _ _ (by simp)).trans m30) (by simp); have m41 := (Ch.of (l := []) hg).cell ((World.cell?_setCell_other _ _ _ _ (by simp)).trans m31) (by simp); have m42 := (Ch.of (l := []) hg).cell ((World.cell?_setCell_other _ _ _ _ (by simp)).trans m32) (by simp); have m43 := (Ch.of (l := []) hg).cell ((World.cell?_setCell_other _ _ _ _ (by simp)).trans m33) (by simp); have m44 := (Ch.of (l := []) hg).cell (World.cell?_setCell_same _ _ _ m34) (by simp); have m45 := (Ch.of (l := []) hg).cell ((World.cell?_setCell_other _ _ _ _ (by simp)).trans m35) (by simp); have Z4 : Hid (∀ q, w4.frozen? ⟨w.heap.size + 2, q, none⟩ = false) := fun q => frozenK (l := []) (Ch.of hg) (by simp; omega) (by simp) (by rw [World.frozen?_setCell]; exact Z3.out q); have z4 := Z4.out 5; have C4 : Hid (Ch W3 (w4.setCell ⟨w.heap.size + 2, 5, none⟩ (.slice a4' x.b.length k4')) [w.heap.size + 2]) := D4.out.trans (Ch.one (grown_set _ _ _ _) (by simp)); have r0 := D4.out.cell (K.out.2.2.1 0 _ rfl) (by simp); have y0 := frozenK D4.out (by omega) (by simp) (K.out.2.2.2.1 0); have r1 := D4.out.cell (K.out.2.2.1 1 _ rfl) (by simp); have y1 := frozenK D4.out (by omega) (by simp) (K.out.2.2.2.1 1); have r2 := D4.out.cell (K.out.2.2.1 2 _ rfl) (by simp); have y2 := frozenK D4.out (by omega) (by simp) (K.out.2.2.2.1 2); have r3 := D4.out.cell (K.out.2.2.1 3 _ rfl) (by simp); have y3 := frozenK D4.out (by omega) (by simp) (K.out.2.2.2.1 3); have r4 := D4.out.cell (K.out.2.2.1 4 _ rfl) (by simp); have y4 := frozenK D4.out (by omega) (by simp) (K.out.2.2.2.1 4); have r5 := D4.out.cell (K.out.2.2.1 5 _ rfl) (by simp); have y5 := frozenK D4.out (by omega) (by simp) (K.out.2.2.2.1 5); clear hN hg H4))
 refine bodyPost_ret (by simp [results, Tryz.results85, go_sem, r0, r1, r2, r3, r4, r5]; try rfl) rfl ?_
 generalize hw9 : World.setCell (World.setCell _ _ _) _ _ = w9
 have c9 : Ch w4 w9 [w.heap.size + 1, w.heap.size + 2] := by
  rw [← hw9]
  exact (((((((Ch.one (grown_set _ _ _ _) (by simp)).trans (Ch.one (grown_set _ _ _ _) (by simp))).trans (Ch.one (grown_set _ _ _ _) (by simp))).trans (Ch.one (grown_set _ _ _ _) (by simp))).trans (Ch.one (grown_set _ _ _ _) (by simp))).trans (Ch.one (grown_set _ _ _ _) (by simp))).trans (Ch.one (grown_set _ _ _ _) (by simp)))
 have s9 := c9.size
 have e4 : Ch w4 w9 [w.heap.size + 1, w.heap.size + 2] := c9
 have e3 : Ch w3 w9 [w.heap.size + 1, w.heap.size + 2] := ((Ch.one (grown_set w3 (w.heap.size + 2) 4 (.slice a3' x.a.length k3')) (by simp)).trans (Ch.of N4.out.2)).trans e4
 have e2 : Ch w2 w9 [w.heap.size + 1, w.heap.size + 2] := ((Ch.one (grown_set w2 (w.heap.size + 2) 3 (.slice a2' x.dst.length k2')) (by simp)).trans (Ch.of N3.out.2)).trans e3
 have e1 : Ch w1 w9 [w.heap.size + 1, w.heap.size + 2] := ((Ch.one (grown_set w1 (w.heap.size + 2) 2 (.slice a1' x.args.length k1')) (by simp)).trans (Ch.of N2.out.2)).trans e2
 have g1 := N1.out.2.size
 try simp only [World.size_setCell] at g1
 have g2 := N2.out.2.size
 try simp only [World.size_setCell] at g2
 have g3 := N3.out.2.size
 try simp only [World.size_setCell] at g3
 have g4 := N4.out.2.size
 try simp only [World.size_setCell] at g4
 have hz0 : W3.heap.size ≤ W3.heap.size := Nat.le_refl _
 refine ⟨a1', k1', a2', k2', a3', k3', a4', k4', rfl, ⟨w1.heap.size, w2.heap.size, ExL.ch N1.out.1 e1 (fun q hq => by have h1 := hq.1; have h2 := hz0; (try simp at h1); simp; omega) (fun q hq => ⟨⟨by have h1 := hq.1; have h2 := hz0; (try simp at h1); omega, by have := hq.2; have := e1.size; omega⟩, hq.2⟩), NumO.ch N2.out.1 e2 (fun q hq => by have h1 := hq.1; have h2 := hz1; (try simp at h1); simp; omega) (fun q hq => ⟨⟨by have h1 := hq.1; have h2 := hz1; (try simp at h1); omega, by have := hq.2; have := e2.size; omega⟩, by have h1 := hq.1; (try simp at h1); omega, hq.2⟩), StL.ch N3.out.1 e3 (fun q hq => by have h1 := hq.1; have h2 := hz2; (try simp at h1); simp; omega) (fun q hq => ⟨⟨by have h1 := hq.1; have h2 := hz2; (try simp at h1); omega, by have := hq.2; have := e3.size; omega⟩, by have h1 := hq.1; (try simp at h1); omega⟩), StL.ch N4.out.1 e4 (fun q hq => by have h1 := hq.1; have h2 := hz3; (try simp at h1); simp; omega) (fun q hq => ⟨⟨by have h1 := hq.1; have h2 := hz3; (try simp at h1); omega, by have := hq.2; have := e4.size; omega⟩, by have h1 := hq.1; (try simp at h1); omega⟩)⟩, ?_⟩
 exact ((Ch.of HG3.out).trans (((D4.out).mono (fun q _ hq => by simp at hq; simp [hq])).trans c9)).nil (by simp)
theorem copyStmt_any {B : Nat → Prop} {w : World} {x : Pg.St} {a1 a2 a3 a4 : Option Addr} {k1 k2 k3 k4 : Nat} (hB : ∀ q, B q → q < w.heap.size) (ih1 : CpS x.a) (ih2 : CpS x.b) (h1 : ExL B w a1 k1 x.args) (h2 : NumL B w a2 k2 x.dst) (h3 : StL B w a3 k3 x.a) (h4 : StL B w a4 k4 x.b) :
  Calls Tryz.prog 85 #[.agg #[.int .i64 x.op, .int .i64 x.n, .slice a1 x.args.length k1, .slice a2 x.dst.length k2, .slice a3 x.a.length k3, .slice a4 x.b.length k4]] w fun e w' => ∃ a1' k1' a2' k2' a3' k3' a4' k4', e = .returned (.agg #[.int .i64 x.op, .int .i64 x.n, .slice a1' x.args.length k1', .slice a2' x.dst.length k2', .slice a3' x.a.length k3', .slice a4' x.b.length k4']) ∧ (ExL (Fresh w w') w' a1' k1' x.args ∧ NumL (Fresh w w') w' a2' k2' x.dst ∧ StL (Fresh w w') w' a3' k3' x.a ∧ StL (Fresh w w') w' a4' k4' x.b) ∧ w.grownBy w' none := (copyStmt_int hB ih1 ih2 h1 h2 h3 h4).mono (by
 rintro e w' ⟨a1', k1', a2', k2', a3', k3', a4', k4', rfl, ⟨u1, u2, p1, p2, p3, p4⟩, hg⟩
 exact ⟨a1', k1', a2', k2', a3', k3', a4', k4', rfl, ⟨ExL.ch (l := []) p1 (Ch.refl _ _) (by simp) (fun _ h => h.1), NumL.ch (l := []) p2.1 (Ch.refl _ _) (by simp) (fun _ h => h.1), StL.ch (l := []) p3 (Ch.refl _ _) (by simp) (fun _ h => h.1), StL.ch (l := []) p4 (Ch.refl _ _) (by simp) (fun _ h => h.1)⟩, hg⟩)
structure SE where
 x : Pg.St
 a1 : Option Addr
 k1 : Nat
 a2 : Option Addr
 k2 : Nat
 a3 : Option Addr
 k3 : Nat
 a4 : Option Addr
 k4 : Nat
def cellsSE (e : SE) : List Value := [.int .i64 e.x.op, .int .i64 e.x.n, .slice e.a1 e.x.args.length e.k1, .slice e.a2 e.x.dst.length e.k2, .slice e.a3 e.x.a.length e.k3, .slice e.a4 e.x.b.length e.k4]
def InSE (B : Nat → Prop) (W : World) (e : SE) : Prop := ExL B W e.a1 e.k1 e.x.args ∧ NumL B W e.a2 e.k2 e.x.dst ∧ StL B W e.a3 e.k3 e.x.a ∧ StL B W e.a4 e.k4 e.x.b ∧ R64 e.x.n
theorem inSE_ch : InCh InSE := fun h hg hl hB => ⟨ExL.ch h.1 hg hl hB, NumL.ch h.2.1 hg hl hB, StL.ch h.2.2.1 hg hl hB, StL.ch h.2.2.2.1 hg hl hB, h.2.2.2.2⟩
theorem info_SE : (Tryz.prog.info? 51).map (fun i => (i.zero, i.size, i.bytes)) = some (some (.agg #[.int .i64 0, .int .i64 0, .slice none 0 0, .slice none 0 0, .slice none 0 0, .slice none 0 0]), 6, 112) := by kernel_rfl
theorem wp_appSE {ops : Array Oper} {rest : List Oper} {o : Oper} {a : Act} {Q : Exit → Act → World → Prop} {W : World} (hgd : o.guard = none) (s y : Operand)
  (ho : o.op = .call { callee := .builtin .append, args := #[s, y], argTypes := #[49, 49] }) (base : Nat) (v : Value) (L : List SE) (e : SE) (hs : a.eval s = v) (hown : W.ownsRow base 51 6 v L.length (L.flatMap cellsSE))
  {nb : Nat} (hx : a.eval y = .slice (some ⟨nb, 0, none⟩) 1 1) (hnb : nb = W.heap.size) (hl : (L.length + 1) * 112 ≤ 140737488351232) (hb : base ≤ W.heap.size)
  (h : ∀ v' w', w'.ownsRow base 51 6 v' (L.length + 1) (L.flatMap cellsSE ++ cellsSE e) → W.grownBy w' v.ownBlock → (∀ q, v'.ownBlock = some q → v.ownBlock = some q ∨ W.heap.size ≤ q) → wpList Tryz.prog ops Q rest (a.put o.dst v') w') :
  wpList Tryz.prog ops Q (o :: rest) a (W.alloc (Obj.cells #[.int .i64 e.x.op, .int .i64 e.x.n, .slice e.a1 e.x.args.length e.k1, .slice e.a2 e.x.dst.length e.k2, .slice e.a3 e.x.a.length e.k3, .slice e.a4 e.x.b.length e.k4] 51)) := by
 obtain ⟨i, hi, hz0, hz1, hz2⟩ := info_parts info_SE
 exact wpList_app_one (P := Tryz.prog) W hgd s y 49 ho base 51 i _ 6 112 Tryz.underlying49 hi hz0 hz1 hz2 rfl (by decide) v L.length _ hs hown (cellsSE e) hx hnb rfl (by intro u hu; simp [cellsSE] at hu; rcases hu with rfl | rfl | rfl | rfl | rfl | rfl <;> rfl) (by unfold maxLen; omega) (by omega) hb h
theorem copyStmts_list (l : List Pg.St) (ih : ∀ x, x ∈ l → CpS x.a ∧ CpS x.b) : CpS l := by
 intro B w a c hB h
 have hle := h.le
 have hmx := h.max
 have hfi : l.length * 112 ≤ 140737488351232 := h.fits
 unfold maxLen at hmx
 have HL : Hid (StL B w a c l) := h
 have HB : Hid (∀ q, B q → q < w.heap.size) := hB
 have HI : Hid (∀ x, x ∈ l → CpS x.a ∧ CpS x.b) := ih
 clear ih
 clear h hB
 go_enter Tryz.func48, Tryz.ntmps48
 go_wp2_with fail
 go_loopw [3, 4] (fun v ix wr => ∃ (k : Nat) (L : List SE), ix = .int .i64 k ∧ k ≤ l.length ∧ L.map SE.x = l.take k ∧ CopG 51 6 cellsSE InSE w wr k v L) (fun _ ix _ => l.length - (intOf ix).toNat)
 case atStart => exact ⟨0, [], rfl, Nat.zero_le _, rfl, CopG.start _ _ _ _ _⟩
 case round =>
  obtain ⟨k, L, rfl, hk, hm, hc⟩ := hrel
  have HC : Hid (CopG 51 6 cellsSE InSE w wr k _ L) := hc
  have HM : Hid (L.map SE.x = l.take k) := hm
  clear hm
  by_cases hkn : k < l.length
  ·have hkn' : (k : Int) < l.length := by omega
   obtain ⟨b, o, rfl, hb, hx⟩ := (StL.grow HL.out hc.gr).at hkn
   obtain ⟨a1, a2, a3, a4, k1, k2, k3, k4, he⟩ := hx.row
   have HCp := copyStmt_any (fun q hq => Nat.lt_of_lt_of_le (HB.out q hq) hc.gr.size) (HI.out l[k] (List.getElem_mem hkn)).1 (HI.out l[k] (List.getElem_mem hkn)).2 he.args he.dst he.a he.b
   have hR := he.rg
   have c0 := he.c0
   have c1 := he.c1
   have c2 := he.c2
   have c3 := he.c3
   have c4 := he.c4
   have c5 := he.c5
   have hlen := hc.len
   have hsz := hc.gr.size
   clear hx he hc
   have HT : Hid (l.take (k + 1) = l.take k ++ [l[k]]) := List.take_succ_eq_append_getElem hkn
   generalize l[k] = x at *
   have HR : Hid (R64 x.n) := hR
   clear hR
   have HCp : Hid (Calls Tryz.prog 85 #[.agg #[.int .i64 x.op, .int .i64 x.n, .slice a1 x.args.length k1, .slice a2 x.dst.length k2, .slice a3 x.a.length k3, .slice a4 x.b.length k4]] wr fun e w' => ∃ a1' k1' a2' k2' a3' k3' a4' k4', e = .returned (.agg #[.int .i64 x.op, .int .i64 x.n, .slice a1' x.args.length k1', .slice a2' x.dst.length k2', .slice a3' x.a.length k3', .slice a4' x.b.length k4']) ∧ (ExL (Fresh wr w') w' a1' k1' x.args ∧ NumL (Fresh wr w') w' a2' k2' x.dst ∧ StL (Fresh wr w') w' a3' k3' x.a ∧ StL (Fresh wr w') w' a4' k4' x.b) ∧ wr.grownBy w' none) := HCp
   go_wp2_with (first
    | (go_at_call 85; refine HCp.out.mono ?_; rintro e w4 ⟨a1', k1', a2', k2', a3', k3', a4', k4', rfl, hN4, hg4⟩; have H4 : Hid ((ExL (Fresh wr w4) w4 a1' k1' x.args ∧ NumL (Fresh wr w4) w4 a2' k2' x.dst ∧ StL (Fresh wr w4) w4 a3' k3' x.a ∧ StL (Fresh wr w4) w4 a4' k4' x.b) ∧ wr.grownBy w4 none) := ⟨hN4, hg4⟩; have hs4 := hg4.size; clear hN4 hg4)
    | (at_builtin; refine wp_appSE rfl _ _ rfl w.heap.size u3 L ⟨x, a1', k1', a2', k2', a3', k3', a4', k4'⟩ rfl (World.ownsRow.kept HC.out.own H4.out.2 (Classical.em _)) rfl rfl (by omega) (by omega) ?_; intro v6 w6 o6 g6 b6))
   go_roundw
   case rel => exact ⟨k + 1, L ++ [⟨x, a1', k1', a2', k2', a3', k3', a4', k4'⟩], by go_num, by omega, by rw [List.map_append, HM.out, HT.out]; rfl, CopG.step (In := InSE) @inSE_ch HC.out H4.out.2 ⟨H4.out.1.1, H4.out.1.2.1, H4.out.1.2.2.1, H4.out.1.2.2.2, HR.out⟩ o6 g6 b6⟩
   case measure => simp [intOf]; omega
  ·obtain rfl : k = l.length := by omega
   obtain ⟨a1, c1, rfl, hT1⟩ := CopG.row (cells := cellsSE) (In := InSE) (by' := 112) (fun e => rfl) hc hfi SE.x (StAt (Fresh w wr) wr) (fun b o e hcc hin => StC.at ⟨hcc 0 _ rfl, hcc 1 _ rfl, hcc 2 _ rfl, hcc 3 _ rfl, hcc 4 _ rfl, hcc 5 _ rfl, hin.2.2.2.2, hin.1, hin.2.1, hin.2.2.1, hin.2.2.2.1⟩) (fun e he => @inSE_ch _ _ _ _ [] _ he (Ch.refl _ _) (by simp) (fun q hq => ⟨hq.1, hq.2.1⟩))
   rw [HM.out, List.take_length] at hT1
   have HT1 : Hid (StL (Fresh w wr) wr a1 c1 l) := hT1
   clear hc hT1
   go_wp2
   go_ret
   exact ⟨a1, c1, rfl, HT1.out, HC.out.gr⟩
theorem copyStmts_any (l : List Pg.St) : CpS l := copyStmts_list l fun x _ => Pg.St.ind (P := fun x => CpS x.a ∧ CpS x.b) (fun _ _ _ _ a b ia ib => ⟨copyStmts_list a ia, copyStmts_list b ib⟩) x
end Go.Proofs.YtpcgkggpmipiaaaGreat
