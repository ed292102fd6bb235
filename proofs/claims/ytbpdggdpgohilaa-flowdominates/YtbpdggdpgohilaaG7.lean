/- Contracts and plain facts that the walks share. -/
import Derived.Test.YtbpdggdpgohilaaG5
import Derived.Test.YtbpdggdpgohilaaG6
import Derived.Test.YtbpdggdpgohilaaSaWy
import Derived.Test.YtbpdggdpgohilaaRuLx
namespace Go.Proofs.Ytbpdggdpgohilaa
open Go.RowKit
set_option linter.unusedVariables false
section
variable {P : Program} (w : World)
theorem app_block_gen (base : Nat) (t ty e : TypeId) (i : TypeInfo) (z : Value) (size bytes : Nat) (ht : P.underlying t = some (.slice e)) (hi : P.info? e = some i) (hz : i.zero = some z)
    (hsize : i.size = size) (hby : i.bytes = bytes) (v : Value) (n : Nat) (xs : List Value) (hown : w.ownsRow base e size v n xs)
    (a : Addr) (m c : Nat) (news : List Value) (hm : 0 < m) (hl : news.length = m * size) (hnews : ∀ j u, news[j]? = some u → w.cell? (a.add j) = some u) (h1 : ∀ u ∈ news, u.oneCell' = true)
    (h63 : n + m ≤ maxLen) (hbytes : (n + m) * bytes ≤ 140737488355328) {v' : Value} {w' : World} (hr : (Builtin.append_ #[t, t] ty #[v, .slice (some a) m c]).run P w = .ok v' w') : v'.ownBlock = v.ownBlock ∨ v'.ownBlock = some w.heap.size := by
  subst hsize
  subst hby
  simp only [maxLen] at h63
  rcases hown.2 with ⟨rfl, h0⟩ | ⟨g, cap, cur, rfl, hbg, hg, hnc, hcm, hcs, htake⟩
  · have := run_append_nil (P := P) w t ty e i z ht hi hz a m c news hl hnews (by omega) (by omega) (by subst h0; simp at hbytes; omega)
    rw [hr] at this
    injection this with e1 e2
    subst e1
    exact .inr rfl
  · by_cases hroom : n + m ≤ cap
    · have hfit : n * i.size + news.length ≤ cur.size := by rw [hl, hcs, ← Nat.add_mul]; exact Nat.mul_le_mul_right _ hroom
      have := run_append_room (P := P) w t ty e i ht hi g n cap cur hg a m c news hl hnews h1 hroom hfit
      rw [hr] at this
      injection this with e1 e2
      subst e1
      exact .inl rfl
    · have := run_append_grow (P := P) w t ty e i z ht hi hz ⟨g, 0, none⟩ n cap xs hown.1 (hown.cells (g := g) rfl) a m c news hl hnews (by omega) (by omega) (growslice_fits (by omega) hbytes)
      rw [hr] at this
      injection this with e1 e2
      subst e1
      exact .inr rfl
theorem wpList_append_blk {ops : Array Oper} {rest : List Oper} {o : Oper} {a : Act} {Q : Exit → Act → World → Prop} (hgd : o.guard = none) (s x : Operand) (t : TypeId)
    (ho : o.op = .call { callee := .builtin .append, args := #[s, x], argTypes := #[t, t] })
    (base : Nat) (e : TypeId) (i : TypeInfo) (z : Value) (size bytes : Nat) (ht : P.underlying t = some (.slice e)) (hi : P.info? e = some i) (hz : i.zero = some z)
    (hsize : i.size = size) (hby : i.bytes = bytes) (hzs : z.cells.size = size) (hsz : 0 < size)
    (v : Value) (n : Nat) (xs : List Value) (hs : a.eval s = v) (hown : w.ownsRow base e size v n xs)
    (ad : Addr) (m c : Nat) (news : List Value) (hm : 0 < m) (hx : a.eval x = .slice (some ad) m c) (hl : news.length = m * size) (hnews : ∀ j u, news[j]? = some u → w.cell? (ad.add j) = some u) (h1 : ∀ u ∈ news, u.oneCell' = true)
    (h63 : n + m ≤ maxLen) (hbytes : (n + m) * bytes ≤ 140737488355328) (hbase : base ≤ w.heap.size)
    (h : ∀ v' w', w'.ownsRow base e size v' (n + m) (xs ++ news) → w.grownBy w' v.ownBlock → (v'.ownBlock = v.ownBlock ∨ v'.ownBlock = some w.heap.size) → wpList P ops Q rest (a.put o.dst v') w') : wpList P ops Q (o :: rest) a w := by
  obtain ⟨v', w', hr, h2, h3, h4⟩ := run_append_own (P := P) w base t o.type e i z size bytes ht hi hz hsize hby hzs hsz v n xs hown ad m c news hl hnews h1 h63 hbytes hbase
  have hbk := app_block_gen (P := P) w base t o.type e i z size bytes ht hi hz hsize hby v n xs hown ad m c news hm hl hnews h1 h63 hbytes hr
  refine wpList_plain hgd fun K hK => ?_
  unfold Oper.wp execOp
  simp only [ho, resolve, invoke, builtin, Sem.run_bind, Sem.run_pure, Result.andThen_ok, List.map_toArray, List.map_cons, List.map_nil, hs, hx, hr]
  exact hK _ _ (h v' w' h2 h3 hbk)
/-- one element more, that lies in a block just made -/
theorem wpList_app_one {ops : Array Oper} {rest : List Oper} {o : Oper} {a : Act} {Q : Exit → Act → World → Prop} (hgd : o.guard = none) (s x : Operand) (t : TypeId)
    (ho : o.op = .call { callee := .builtin .append, args := #[s, x], argTypes := #[t, t] })
    (base : Nat) (e : TypeId) (i : TypeInfo) (z : Value) (size bytes : Nat) (ht : P.underlying t = some (.slice e)) (hi : P.info? e = some i) (hz : i.zero = some z)
    (hsize : i.size = size) (hby : i.bytes = bytes) (hzs : z.cells.size = size) (hsz : 0 < size)
    (v : Value) (n : Nat) (xs : List Value) (hs : a.eval s = v) (hown : w.ownsRow base e size v n xs)
    (news : List Value) {nb : Nat} (hx : a.eval x = .slice (some ⟨nb, 0, none⟩) 1 1) (hnb : nb = w.heap.size) (hl : news.length = size) (h1 : ∀ u ∈ news, u.oneCell' = true)
    (h63 : n + 1 ≤ maxLen) (hbytes : (n + 1) * bytes ≤ 140737488355328) (hbase : base ≤ w.heap.size)
    (h : ∀ v' w', w'.ownsRow base e size v' (n + 1) (xs ++ news) → w.grownBy w' v.ownBlock → (∀ q, v'.ownBlock = some q → v.ownBlock = some q ∨ w.heap.size ≤ q) → wpList P ops Q rest (a.put o.dst v') w') : wpList P ops Q (o :: rest) a (w.alloc (.cells news.toArray e)) := by
  subst hnb
  have hg := World.grownBy_alloc w (.cells news.toArray e) none
  have ea : ∀ b o j : Nat, (⟨b, o, none⟩ : Addr).add j = ⟨b, o + j, none⟩ := fun b o j => by simp [Addr.add]
  refine wpList_append_blk (P := P) _ hgd s x t ho base e i z size bytes ht hi hz hsize hby hzs hsz v n xs hs (World.ownsRow.alloc hown _) ⟨w.heap.size, 0, none⟩ 1 1 news (by decide) hx (by omega)
    (by intro j u hj; rw [ea, Nat.zero_add, World.cell?_alloc_new]; simpa using hj) h1 h63 hbytes (by simp; omega) ?_
  intro v' w' h2 h3 hq
  refine h v' w' h2 (grown_trans (grown_noneR _ hg) h3) (fun q hv => ?_)
  rcases hq with e' | e'
  · exact .inl (e' ▸ hv)
  · rw [e'] at hv; simp at hv; exact .inr (by omega)
end
end Go.Proofs.Ytbpdggdpgohilaa
namespace Go.Proofs.Ytbpdggdpgohilaa
open Go.RowKit
set_option linter.unusedVariables false
set_option maxRecDepth 100000
set_option maxHeartbeats 4000000
/-- one number more -/
theorem run_appZ1 {W : World} {base : Nat} {v : Value} {l : List Int} {T : Nat} {x : Int} (hown : OwnZ W base v l) (hc : W.cell? ⟨T, 0, none⟩ = some (.int .i64 x)) (hl : l.length ≤ 2000000) (hb : base ≤ W.heap.size) (ty : TypeId) :
    ∃ v' w', (Builtin.append_ #[24, 24] ty #[v, .slice (some ⟨T, 0, none⟩) 1 1]).run Try.prog W = .ok v' w' ∧ OwnZ w' base v' (l ++ [x]) ∧ W.grownBy w' v.ownBlock ∧ (v'.ownBlock = v.ownBlock ∨ v'.ownBlock = some W.heap.size) := by
  obtain ⟨i, hi, hz0, hz1, hz2⟩ := info_parts info_int
  have hn : ∀ j u, ([Value.int .i64 x])[j]? = some u → W.cell? ((⟨T, 0, none⟩ : Addr).add j) = some u := fun j u hj => by
    match j, hj with
    | 0, hj => simp [Addr.add] at hj ⊢; rw [hc, hj]
  have h1 : ∀ u ∈ [Value.int .i64 x], u.oneCell' = true := fun u hu => by simp at hu; subst hu; rfl
  obtain ⟨v', w', hr, h2, h3, _⟩ := run_append_own (P := Try.prog) W base 24 ty 3 i (.int .i64 0) 1 8 Try.underlying24 hi hz0 hz1 hz2 rfl (by decide) v l.length (l.map (Value.int .i64)) hown ⟨T, 0, none⟩ 1 1 [.int .i64 x] rfl hn h1 (by unfold maxLen; omega) (by omega) hb
  refine ⟨v', w', hr, ?_, h3, app_block_gen (P := Try.prog) W base 24 ty 3 i (.int .i64 0) 1 8 Try.underlying24 hi hz0 hz1 hz2 v l.length (l.map (Value.int .i64)) hown ⟨T, 0, none⟩ 1 1 [.int .i64 x] (by decide) rfl hn h1 (by unfold maxLen; omega) (by omega) hr⟩
  unfold OwnZ
  rw [List.length_append, List.map_append]
  exact h2
/-- a walk as it lies -/
structure WkL (N : Nat) (W : World) (WB RB n : Nat) (blk : Value) (s : Sa.Wk) (ov pv : Value) : Prop where
  k : Bk W WB 91 [blk, ov, .slice (some ⟨RB, 0, none⟩) n n, pv]
  lo : N ≤ WB
  o : OwnZ W N ov s.order
  p : OwnZ W N pv s.parent
  r : OwnN W N (.slice (some ⟨RB, 0, none⟩) n n) n s.rank
  a1 : ∀ q, ov.ownBlock = some q → q ≠ WB ∧ q ≠ RB
  a2 : ∀ q, pv.ownBlock = some q → q ≠ WB ∧ q ≠ RB ∧ ov.ownBlock ≠ some q
  a3 : RB ≠ WB
def WkAt (N : Nat) (W : World) (WB RB n : Nat) (blk : Value) (s : Sa.Wk) : Prop := ∃ ov pv, WkL N W WB RB n blk s ov pv
theorem WkL.grow {N : Nat} {W W' : World} {WB RB n : Nat} {blk : Value} {s : Sa.Wk} {ov pv : Value} (h : WkL N W WB RB n blk s ov pv) (g : W.grownBy W' none) : WkL N W' WB RB n blk s ov pv :=
  ⟨h.k.grow g, h.lo, h.o.grow g, h.p.grow g, h.r.grow g, h.a1, h.a2, h.a3⟩
theorem WkAt.grow {N : Nat} {W W' : World} {WB RB n : Nat} {blk : Value} {s : Sa.Wk} (h : WkAt N W WB RB n blk s) (g : W.grownBy W' none) : WkAt N W' WB RB n blk s := by
  obtain ⟨ov, pv, h⟩ := h
  exact ⟨ov, pv, h.grow g⟩
theorem Ch.ofBelow {N : Nat} {w w' : World} (h : Below N w w') : Ch w w' (List.range' N (w.heap.size - N)) := ⟨h.os, h.tape, h.output, h.size, fun k hk hn => h.block k (by
  rcases Nat.lt_or_ge k N with h1 | h1
  · exact h1
  · exact absurd (List.mem_range'_1.2 ⟨h1, by omega⟩) hn)⟩
theorem BlL.below {N : Nat} {w w' : World} {a : Option Addr} {k : Nat} {bs : List Sa.Bl} (h : BlL (· < N) w a k bs) (g : Below N w w') : BlL (· < N) w' a k bs := BlL.ch h (Ch.ofBelow g) (fun q hq hm => by have := (List.mem_range'_1.1 hm).1; omega) (fun _ h => h)
/- the region -/
def viL (WB : Nat) (ov pv : Value) : List Nat := WB :: (ov.ownBlock.toList ++ pv.ownBlock.toList)
def viT (WB : Nat) (ov pv : Value) : Nat → World → World → Prop
  | 8, w, w' => w.grownBy w' ov.ownBlock
  | 15, w, w' => w.grownBy w' pv.ownBlock
  | 18, w, w' => ∃ x, w' = w.setCell ⟨WB, 1, none⟩ x
  | 21, w, w' => ∃ x, w' = w.setCell ⟨WB, 3, none⟩ x
  | _, w, w' => w.grownBy w' none
def viB (w : World) (WB : Nat) (blk rk x y : Value) : Prop := Bk w WB 91 [blk, x, rk, y]
def viK (N WB : Nat) (blk ov rk pv : Value) (order parent : List Int) : Nat → World → Prop
  | 5, w => ∃ y, viB w WB blk rk ov y
  | 8, w => OwnZ w N ov order
  | 12, w => ∃ x, viB w WB blk rk x pv
  | 15, w => OwnZ w N pv parent
  | 18, w => ∃ x y, viB w WB blk rk x y
  | 21, w => ∃ x y, viB w WB blk rk x y
  | _, w => True
def viV (WB : Nat) (ov pv : Value) (b p : Int) : Nat → Value
  | 4 => .pointer (some ⟨WB, 1, none⟩)
  | 5 => ov
  | 6 => .int .i64 b
  | 11 => .pointer (some ⟨WB, 3, none⟩)
  | 12 => pv
  | 13 => .int .i64 p
  | 17 => .pointer (some ⟨WB, 1, none⟩)
  | 20 => .pointer (some ⟨WB, 3, none⟩)
  | _ => .pointer (some ⟨WB, 0, none⟩)
def viP (N S WB : Nat) (blk ov rk pv : Value) (order parent : List Int) (b p : Int) (W0 : World) : Nat → (Nat → Value) → World → Prop
  | 7, V, w => ∃ q, V 7 = .slice (some ⟨q, 0, none⟩) 1 1 ∧ S ≤ q ∧ w.cell? ⟨q, 0, none⟩ = some (.int .i64 b)
  | 14, V, w => ∃ q, V 14 = .slice (some ⟨q, 0, none⟩) 1 1 ∧ S ≤ q ∧ w.cell? ⟨q, 0, none⟩ = some (.int .i64 p)
  | 8, V, w => OwnZ w N (V 8) (order ++ [b]) ∧ ∀ q, (V 8).ownBlock = some q → ov.ownBlock = some q ∨ S ≤ q
  | 15, V, w => OwnZ w N (V 15) (parent ++ [p]) ∧ ∀ q, (V 15).ownBlock = some q → (pv.ownBlock = some q ∨ S ≤ q) ∧ (V 8).ownBlock ≠ some q
  | 18, V, w => ∃ y, viB w WB blk rk (V 8) y
  | 21, V, w => (∃ x, viB w WB blk rk x (V 15)) ∧ Ch W0 w (viL WB ov pv)
  | i, V, w => V i = viV WB ov pv b p i
section
variable {N S WB : Nat} {blk ov rk pv : Value} {order parent : List Int} {b p : Int} {W0 : World}
theorem viT_rows {i : Nat} {w w' : World} (h : viT WB ov pv i w w') : (∃ row, w.grownBy w' row ∧ (row = none ∨ (i = 8 ∧ row = ov.ownBlock) ∨ (i = 15 ∧ row = pv.ownBlock))) ∨ (i = 18 ∧ ∃ x, w' = w.setCell ⟨WB, 1, none⟩ x) ∨ (i = 21 ∧ ∃ x, w' = w.setCell ⟨WB, 3, none⟩ x) := by
  unfold viT at h
  split at h
  · exact .inl ⟨_, h, .inr (.inl ⟨rfl, rfl⟩)⟩
  · exact .inl ⟨_, h, .inr (.inr ⟨rfl, rfl⟩)⟩
  · exact .inr (.inl ⟨rfl, h⟩)
  · exact .inr (.inr ⟨rfl, h⟩)
  · exact .inl ⟨_, h, .inl rfl⟩
theorem grown_ch {w w' : World} {row : Option Nat} {l : List Nat} (g : w.grownBy w' row) (h : ∀ q, row = some q → q ∈ l) : Ch w w' l := by
  cases row with
  | none => exact Ch.of g
  | some q => exact Ch.one g (h q rfl)
theorem viT_ch {i : Nat} {w w' : World} (h : viT WB ov pv i w w') : Ch w w' (viL WB ov pv) := by
  rcases viT_rows h with ⟨row, g, h1⟩ | ⟨_, x, rfl⟩ | ⟨_, x, rfl⟩
  · refine grown_ch g fun q hq => ?_
    unfold viL
    rcases h1 with rfl | ⟨_, rfl⟩ | ⟨_, rfl⟩
    · cases hq
    · simp [hq]
    · simp [hq]
  · exact Ch.one (grown_set _ _ _ _) (by simp [viL])
  · exact Ch.one (grown_set _ _ _ _) (by simp [viL])
theorem viT_B (h1 : ov.ownBlock ≠ some WB) (h2 : pv.ownBlock ≠ some WB) {i : Nat} {w w' : World} (h : viT WB ov pv i w w') {x y : Value} (hB : viB w WB blk rk x y) : ∃ x' y', viB w' WB blk rk x' y' ∧ (i ≠ 18 → x' = x) ∧ (i ≠ 21 → y' = y) := by
  rcases viT_rows h with ⟨row, g, h3⟩ | ⟨rfl, z, rfl⟩ | ⟨rfl, z, rfl⟩
  · refine ⟨x, y, ?_, fun _ => rfl, fun _ => rfl⟩
    refine Bk.ch hB (grown_ch (l := row.toList) g (by intro q hq; simp [hq])) ?_
    rcases h3 with rfl | ⟨_, rfl⟩ | ⟨_, rfl⟩
    · simp
    · simpa using h1
    · simpa using h2
  · exact ⟨z, y, Bk.set hB 1 z, fun h => absurd rfl h, fun _ => rfl⟩
  · exact ⟨x, z, Bk.set hB 3 z, fun _ => rfl, fun h => absurd rfl h⟩
theorem viT_own {i : Nat} {w w' : World} (h : viT WB ov pv i w w') {base : Nat} {v : Value} {l : List Int} (ho : OwnZ w base v l) (h0 : v.ownBlock ≠ some WB) (h1 : i = 8 → ∀ q, v.ownBlock = some q → ov.ownBlock ≠ some q) (h2 : i = 15 → ∀ q, v.ownBlock = some q → pv.ownBlock ≠ some q) : OwnZ w' base v l := by
  rcases viT_rows h with ⟨row, g, h3⟩ | ⟨rfl, z, rfl⟩ | ⟨rfl, z, rfl⟩
  · refine OwnZ.ch ho (grown_ch (l := row.toList) g (by intro q hq; simp [hq])) fun q hq => ?_
    rcases h3 with rfl | ⟨hi, rfl⟩ | ⟨hi, rfl⟩
    · simp
    · have := h1 hi q hq; simpa using this
    · have := h2 hi q hq; simpa using this
  · exact OwnZ.ch ho (Ch.one (l := [WB]) (grown_set _ _ _ _) (by simp)) fun q hq => by intro hm; simp at hm; subst hm; exact h0 hq
  · exact OwnZ.ch ho (Ch.one (l := [WB]) (grown_set _ _ _ _) (by simp)) fun q hq => by intro hm; simp at hm; subst hm; exact h0 hq
structure ViS (N S WB : Nat) (ov pv : Value) : Prop where
  w : WB < S
  n : N ≤ WB
  o : ∀ q, ov.ownBlock = some q → q < S ∧ q ≠ WB
  p : ∀ q, pv.ownBlock = some q → q < S ∧ q ≠ WB ∧ ov.ownBlock ≠ some q
theorem viK_keep (hs : ViS N S WB ov pv) {i j : Nat} {w w' : World} (hne : j ≠ i) (h5 : i = 18 → j ≠ 5) (h12 : i = 21 → j ≠ 12) (hT : viT WB ov pv i w w') (hK : viK N WB blk ov rk pv order parent j w) : viK N WB blk ov rk pv order parent j w' := by
  have e1 : ov.ownBlock ≠ some WB := fun e => (hs.o _ e).2 rfl
  have e2 : pv.ownBlock ≠ some WB := fun e => (hs.p _ e).2.1 rfl
  unfold viK at hK
  split at hK
  · obtain ⟨y, hB⟩ := hK
    obtain ⟨x', y', hB', g1, g2⟩ := viT_B e1 e2 hT hB
    rw [g1 (fun e => h5 e rfl)] at hB'
    exact ⟨y', hB'⟩
  · exact viT_own hT hK e1 (fun e => absurd e.symm hne) (fun _ q hq hq2 => (hs.p q hq2).2.2 hq)
  · obtain ⟨x, hB⟩ := hK
    obtain ⟨x', y', hB', g1, g2⟩ := viT_B e1 e2 hT hB
    rw [g2 (fun e => h12 e rfl)] at hB'
    exact ⟨x', hB'⟩
  · exact viT_own hT hK e2 (fun _ q hq hq2 => (hs.p q hq).2.2 hq2) (fun e => absurd e.symm hne)
  · obtain ⟨x, y, hB⟩ := hK
    obtain ⟨x', y', hB', _⟩ := viT_B e1 e2 hT hB
    exact ⟨x', y', hB'⟩
  · obtain ⟨x, y, hB⟩ := hK
    obtain ⟨x', y', hB', _⟩ := viT_B e1 e2 hT hB
    exact ⟨x', y', hB'⟩
  · unfold viK
    split <;> first | exact trivial | (exfalso; simp_all; done)
theorem viT_cell (hs : ViS N S WB ov pv) {i : Nat} {w w' : World} (hT : viT WB ov pv i w w') {q : Nat} (hq : S ≤ q) {x : Value} (hc : w.cell? ⟨q, 0, none⟩ = some x) : w'.cell? ⟨q, 0, none⟩ = some x := by
  refine (viT_ch hT).cell hc ?_
  unfold viL
  intro hm
  simp only [List.mem_cons, List.mem_append, Option.mem_toList] at hm
  rcases hm with rfl | hm | hm
  · have := hs.w; omega
  · have := (hs.o q hm).1; omega
  · have := (hs.p q hm).1; omega
theorem viP_keep (hs : ViS N S WB ov pv) {i j : Nat} {V : Nat → Value} {w w' : World} (hne : j ≠ i) (hT : viT WB ov pv i w w') (hK : viP N S WB blk ov rk pv order parent b p W0 j V w) : viP N S WB blk ov rk pv order parent b p W0 j V w' := by
  have e1 : ov.ownBlock ≠ some WB := fun e => (hs.o _ e).2 rfl
  have e2 : pv.ownBlock ≠ some WB := fun e => (hs.p _ e).2.1 rfl
  unfold viP at hK
  split at hK
  · obtain ⟨q, h1, h2, h3⟩ := hK
    exact ⟨q, h1, h2, viT_cell hs hT h2 h3⟩
  · obtain ⟨q, h1, h2, h3⟩ := hK
    exact ⟨q, h1, h2, viT_cell hs hT h2 h3⟩
  · refine ⟨viT_own hT hK.1 (fun e => ?_) (fun e => absurd e.symm hne) (fun _ q hq hq2 => ?_), hK.2⟩
    · rcases hK.2 _ e with h1 | h1
      · exact e1 h1
      · have := hs.w; omega
    · rcases hK.2 _ hq with h1 | h1
      · exact (hs.p _ hq2).2.2 h1
      · have := (hs.p _ hq2).1; omega
  · refine ⟨viT_own hT hK.1 (fun e => ?_) (fun _ q hq hq2 => ?_) (fun e => absurd e.symm hne), hK.2⟩
    · rcases (hK.2 _ e).1 with h1 | h1
      · exact e2 h1
      · have := hs.w; omega
    · rcases (hK.2 _ hq).1 with h1 | h1
      · exact (hs.p _ h1).2.2 hq2
      · have := (hs.o _ hq2).1; omega
  · obtain ⟨y, hB⟩ := hK
    obtain ⟨x', y', hB', g1, g2⟩ := viT_B e1 e2 hT hB
    rw [g1 (fun e => hne e.symm)] at hB'
    exact ⟨y', hB'⟩
  · obtain ⟨⟨x, hB⟩, hC⟩ := hK
    obtain ⟨x', y', hB', g1, g2⟩ := viT_B e1 e2 hT hB
    rw [g2 (fun e => hne e.symm)] at hB'
    exact ⟨⟨x', hB'⟩, hC.trans (viT_ch hT)⟩
  · unfold viP
    split <;> first | exact hK | (exfalso; simp_all; done)
theorem viP_cong {j : Nat} {V V' : Nat → Value} {w : World} (h : V j = V' j) (h8 : j = 15 ∨ j = 18 → V 8 = V' 8) (h15 : j = 21 → V 15 = V' 15) (hK : viP N S WB blk ov rk pv order parent b p W0 j V w) : viP N S WB blk ov rk pv order parent b p W0 j V' w := by
  unfold viP at hK
  split at hK
  · rw [h] at hK; exact hK
  · rw [h] at hK; exact hK
  · rw [h] at hK; exact hK
  · rw [h, h8 (.inl rfl)] at hK; exact hK
  · rw [h8 (.inr rfl)] at hK; exact hK
  · rw [h15 rfl] at hK; exact hK
  · rw [h] at hK
    unfold viP
    split <;> first | exact hK | (exfalso; simp_all; done)
end
theorem stepF_val {P : Program} {o : Oper} {T : World → World → Prop} {Φ : (Nat → Value) → World → Prop} {V : Nat → Value} {i : Nat} {a : Act} {w w' : World} {v : Value} (hg : o.guard = none) (hd : o.dst.isSome = true) (hr : (execOp a.eval o).run P w = .ok (.value v) w') (hT : T w w') (hΦ : Φ (upV V i v) w') : stepF P o T Φ V i a w := by
  unfold stepF
  rw [hr]
  exact ⟨hg, hd, hT, hΦ⟩
theorem stepF_skip {P : Program} {o : Oper} {T : World → World → Prop} {Φ : (Nat → Value) → World → Prop} {V : Nat → Value} {i : Nat} {a : Act} {w w' : World} (hg : o.guard = none) (hr : (execOp a.eval o).run P w = .ok .skip w') (hT : T w w') (hΦ : Φ (upV V i undef) w') : stepF P o T Φ V i a w := by
  unfold stepF
  rw [hr]
  exact ⟨hg, hT, hΦ⟩
def apL (WB : Nat) (pv : Value) : List Nat := WB :: pv.ownBlock.toList
def apT (WB ci : Nat) (pv : Value) : Nat → World → World → Prop
  | 7, w, w' => w.grownBy w' pv.ownBlock
  | 10, w, w' => ∃ x, w' = w.setCell ⟨WB, ci, none⟩ x
  | _, w, w' => w.grownBy w' none
def apK (N WB PB : Nat) (ty : TypeId) (pv : Value) (l : List Int) (L : List Value) : Nat → World → Prop
  | 0, w => w.cell? ⟨PB, 0, none⟩ = some (.pointer (some ⟨WB, 0, none⟩))
  | 1, w => w.cell? ⟨PB, 0, none⟩ = some (.pointer (some ⟨WB, 0, none⟩))
  | 4, w => Bk w WB ty L
  | 7, w => OwnZ w N pv l
  | 10, w => Bk w WB ty L
  | _, w => True
def apV (WB ci : Nat) (pv : Value) (x : Int) : Nat → Value
  | 3 => .pointer (some ⟨WB, ci, none⟩)
  | 4 => pv
  | 5 => .int .i64 x
  | 9 => .pointer (some ⟨WB, ci, none⟩)
  | _ => .pointer (some ⟨WB, 0, none⟩)
def apP (N S WB ci : Nat) (ty : TypeId) (pv : Value) (l : List Int) (x : Int) (L : List Value) (W0 : World) : Nat → (Nat → Value) → World → Prop
  | 6, V, w => ∃ q, V 6 = .slice (some ⟨q, 0, none⟩) 1 1 ∧ S ≤ q ∧ w.cell? ⟨q, 0, none⟩ = some (.int .i64 x)
  | 7, V, w => OwnZ w N (V 7) (l ++ [x]) ∧ ∀ q, (V 7).ownBlock = some q → pv.ownBlock = some q ∨ S ≤ q
  | 10, V, w => Bk w WB ty (L.set ci (V 7)) ∧ Ch W0 w (apL WB pv)
  | i, V, w => V i = apV WB ci pv x i
structure ApS (N S WB PB : Nat) (pv : Value) : Prop where
  w : WB < S
  n : N ≤ WB
  o : ∀ q, pv.ownBlock = some q → q < S ∧ q ≠ WB ∧ q ≠ PB
  p : PB ≠ WB
section
variable {N S WB PB ci : Nat} {ty : TypeId} {pv : Value} {l : List Int} {x : Int} {L : List Value} {W0 : World}
theorem apT_rows {i : Nat} {w w' : World} (h : apT WB ci pv i w w') : (∃ row, w.grownBy w' row ∧ (row = none ∨ (i = 7 ∧ row = pv.ownBlock))) ∨ (i = 10 ∧ ∃ x, w' = w.setCell ⟨WB, ci, none⟩ x) := by
  unfold apT at h
  split at h
  · exact .inl ⟨_, h, .inr ⟨rfl, rfl⟩⟩
  · exact .inr ⟨rfl, h⟩
  · exact .inl ⟨_, h, .inl rfl⟩
theorem apT_ch {i : Nat} {w w' : World} (h : apT WB ci pv i w w') : Ch w w' (apL WB pv) := by
  rcases apT_rows h with ⟨row, g, h1⟩ | ⟨_, x, rfl⟩
  · refine grown_ch g fun q hq => ?_
    unfold apL
    rcases h1 with rfl | ⟨_, rfl⟩
    · cases hq
    · simp [hq]
  · exact Ch.one (grown_set _ _ _ _) (by simp [apL])
theorem apT_10 {i : Nat} {w w' : World} (h : apT WB ci pv i w w') (hi : i ≠ 10) : Ch w w' pv.ownBlock.toList := by
  rcases apT_rows h with ⟨row, g, h1⟩ | ⟨h1, _⟩
  · refine grown_ch g fun q hq => ?_
    rcases h1 with rfl | ⟨_, rfl⟩
    · cases hq
    · simp [hq]
  · exact absurd h1 hi
theorem apT_7 {i : Nat} {w w' : World} (h : apT WB ci pv i w w') (hi : i ≠ 7) : Ch w w' [WB] := by
  rcases apT_rows h with ⟨row, g, h1⟩ | ⟨_, x, rfl⟩
  · refine grown_ch g fun q hq => ?_
    rcases h1 with rfl | ⟨h2, _⟩
    · cases hq
    · exact absurd h2 hi
  · exact Ch.one (grown_set _ _ _ _) (by simp)
theorem apT_0 {i : Nat} {w w' : World} (h : apT WB ci pv i w w') (hi : i ≠ 7) (h10 : i ≠ 10) : w.grownBy w' none := by
  rcases apT_rows h with ⟨row, g, h1⟩ | ⟨h2, _⟩
  · rcases h1 with rfl | ⟨h2, _⟩
    · exact g
    · exact absurd h2 hi
  · exact absurd h2 h10
theorem apK_keep (hs : ApS N S WB PB pv) {i j : Nat} {w w' : World} (hne : j ≠ i) (h10 : i ≠ 10) (hT : apT WB ci pv i w w') (hK : apK N WB PB ty pv l L j w) : apK N WB PB ty pv l L j w' := by
  have hc := apT_10 hT h10
  have hp : PB ∉ pv.ownBlock.toList := fun hm => by rw [Option.mem_toList] at hm; exact (hs.o _ hm).2.2 rfl
  have hw : WB ∉ pv.ownBlock.toList := fun hm => by rw [Option.mem_toList] at hm; exact (hs.o _ hm).2.1 rfl
  unfold apK at hK
  split at hK
  · exact hc.cell hK hp
  · exact hc.cell hK hp
  · exact Bk.ch hK hc hw
  · exact OwnZ.grow hK (apT_0 hT (fun e => hne e.symm) h10)
  · exact Bk.ch hK hc hw
  · unfold apK
    split <;> first | exact trivial | (exfalso; simp_all; done)
theorem apP_keep (hs : ApS N S WB PB pv) {i j : Nat} {V : Nat → Value} {w w' : World} (hne : j ≠ i) (h10 : j ≠ 10) (hT : apT WB ci pv i w w') (hK : apP N S WB ci ty pv l x L W0 j V w) : apP N S WB ci ty pv l x L W0 j V w' := by
  unfold apP at hK
  split at hK
  · obtain ⟨q, h1, h2, h3⟩ := hK
    refine ⟨q, h1, h2, (apT_ch hT).cell h3 fun hm => ?_⟩
    unfold apL at hm
    rw [List.mem_cons, Option.mem_toList] at hm
    rcases hm with rfl | hm
    · have := hs.w; omega
    · have := (hs.o q hm).1; omega
  · refine ⟨OwnZ.ch hK.1 (apT_7 hT (fun e => hne e.symm)) fun q hq hm => ?_, hK.2⟩
    rw [List.mem_singleton] at hm
    subst hm
    rcases hK.2 _ hq with h1 | h1
    · exact (hs.o _ h1).2.1 rfl
    · have := hs.w; omega
  · exact absurd rfl h10
  · unfold apP
    split <;> first | exact hK | (exfalso; simp_all; done)
theorem apP_cong {j : Nat} {V V' : Nat → Value} {w : World} (h : V j = V' j) (h7 : j = 10 → V 7 = V' 7) (hK : apP N S WB ci ty pv l x L W0 j V w) : apP N S WB ci ty pv l x L W0 j V' w := by
  unfold apP at hK
  split at hK
  · rw [h] at hK; exact hK
  · rw [h] at hK; exact hK
  · rw [h7 rfl] at hK; exact hK
  · rw [h] at hK
    unfold apP
    split <;> first | exact hK | (exfalso; simp_all; done)
end
end Go.Proofs.Ytbpdggdpgohilaa
namespace Go.Proofs.Ytbpdggdpgohilaa
open Go.RowKit
set_option linter.unusedVariables false
namespace Sa
mutual
def fvisit (bs : List Bl) : Nat → Int → Int → Wk × List Int → Wk × List Int
  | 0, _, _, s => s
  | f + 1, b, p, s => ((fvisits bs f s.1.order.length (bs.getD b.toNat bl0).succs (s.1.on b p, s.2)).1, (fvisits bs f s.1.order.length (bs.getD b.toNat bl0).succs (s.1.on b p, s.2)).2 ++ [b])
def fvisits (bs : List Bl) : Nat → Nat → List Int → Wk × List Int → Wk × List Int
  | _, _, [], s => s
  | f, own, x :: l, s => fvisits bs f own l (if s.1.rank x.toNat = -1 then fvisit bs f x own s else s)
end
def fwalk (bs : List Bl) : Wk × List Int := fvisit bs bs.length 0 (-1) (wk0, [])
theorem fvisits_fst {bs : List Bl} {f : Nat} (ih : ∀ b p s, (fvisit bs f b p s).1 = visit bs f b p s.1) {own : Nat} : ∀ {l : List Int} {s : Wk × List Int}, (fvisits bs f own l s).1 = visits bs f own l s.1
  | [], s => by rw [fvisits, visits]
  | x :: l, s => by
    rw [fvisits, visits, fvisits_fst ih]
    split
    · rw [ih]
    · rfl
theorem fvisit_fst {bs : List Bl} : ∀ f b p s, (fvisit bs f b p s).1 = visit bs f b p s.1
  | 0, b, p, s => by rw [fvisit, visit]
  | f + 1, b, p, s => by
    rw [fvisit, visit]
    exact fvisits_fst (fvisit_fst f)
theorem fwalk_fst (bs : List Bl) : (fwalk bs).1 = walk bs := fvisit_fst _ _ _ _
/-- a way of so many steps -/
def reachN (bs : List Bl) : Nat → Int → Int → Prop
  | 0, a, c => a = c
  | n + 1, a, c => ∃ b, reachN bs n a b ∧ c ∈ (bs.getD b.toNat bl0).succs
def Reach (bs : List Bl) (a c : Int) : Prop := ∃ n, reachN bs n a c
theorem Reach.refl (bs : List Bl) (a : Int) : Reach bs a a := ⟨0, rfl⟩
theorem Reach.step {bs : List Bl} {a b c : Int} (h : Reach bs a b) (hc : c ∈ (bs.getD b.toNat bl0).succs) : Reach bs a c := by
  obtain ⟨n, h⟩ := h
  exact ⟨n + 1, b, h, hc⟩
/-- what is so of those that are left -/
structure PI (bs : List Bl) (w : Wk) (post : List Int) : Prop where
  sub : ∀ x, x ∈ post → x ∈ w.order
  nd : post.Nodup
  edge : ∀ P k Q, post = P ++ k :: Q → ∀ s, s ∈ (bs.getD k.toNat bl0).succs → s ∈ P ∨ Reach bs s k
theorem WkI.mem {n : Nat} {w : Wk} (h : WkI n w) {b : Nat} (hb : b < n) : (b : Int) ∈ w.order ↔ w.rank b ≠ -1 := by
  constructor
  · intro hm
    obtain ⟨j, hj, e⟩ := List.mem_iff_getElem.1 hm
    obtain ⟨q, hq, h1, h2⟩ := h.ord j hj
    rw [List.getD_eq_getElem?_getD, List.getElem?_eq_getElem hj, Option.getD_some, e] at h1
    have : q = b := by omega
    subst this
    rw [h2]; omega
  · intro hr
    rcases h.rk b hb with h1 | ⟨j, hj, h1, h2⟩
    · exact absurd h1 hr
    · rw [← h2, List.getD_eq_getElem?_getD, List.getElem?_eq_getElem hj, Option.getD_some]
      exact List.getElem_mem hj
theorem WkI.in {n : Nat} {w : Wk} (h : WkI n w) {x : Int} (hx : x ∈ w.order) : ∃ b : Nat, b < n ∧ x = b := by
  obtain ⟨j, hj, e⟩ := List.mem_iff_getElem.1 hx
  obtain ⟨q, hq, h1, h2⟩ := h.ord j hj
  rw [List.getD_eq_getElem?_getD, List.getElem?_eq_getElem hj, Option.getD_some, e] at h1
  exact ⟨q, hq, h1⟩
theorem WkX.mem {a b : Wk} (h : WkX a b) {x : Int} (hx : x ∈ a.order) : x ∈ b.order := by
  obtain ⟨⟨l, hl⟩, _⟩ := h
  rw [hl]; exact List.mem_append_left _ hx
theorem WkI.un_le {n : Nat} {w w' : Wk} (h : WkI n w) (h' : WkI n w') (x : WkX w w') : un w'.rank n ≤ un w.rank n := by
  have := h.cnt
  have := h'.cnt
  have := x.len
  omega
/-- what comes out -/
structure FOut (bs : List Bl) (w : Wk) (post : List Int) (t : Wk × List Int) : Prop where
  i : WkI bs.length t.1
  x : WkX w t.1
  p : PI bs t.1 t.2
  same : ∀ x, (x ∈ t.1.order ∧ x ∉ t.2) ↔ (x ∈ w.order ∧ x ∉ post)
  grow : ∃ l, t.2 = post ++ l
theorem FOut.trans {bs : List Bl} {w : Wk} {post : List Int} {t u : Wk × List Int} (h : FOut bs w post t) (g : FOut bs t.1 t.2 u) : FOut bs w post u :=
  ⟨g.i, h.x.trans g.x, g.p, fun x => (g.same x).trans (h.same x), by
    obtain ⟨l, hl⟩ := h.grow
    obtain ⟨m, hm⟩ := g.grow
    exact ⟨l ++ m, by rw [hm, hl, List.append_assoc]⟩⟩
def FOk (bs : List Bl) (f : Nat) : Prop := ∀ (b : Nat) (p : Int) (w : Wk) (post : List Int), b < bs.length → w.rank b = -1 → (-1 ≤ p ∧ p < (w.order.length : Int) ∧ (0 < w.order.length → 0 ≤ p)) → WkI bs.length w → un w.rank bs.length ≤ f → PI bs w post → (∀ x, x ∈ w.order → x ∉ post → Reach bs x b) → FOut bs w post (fvisit bs f b p (w, post)) ∧ ∃ l, (fvisit bs f b p (w, post)).2 = l ++ [(b : Int)]
theorem fvisits_ok {bs : List Bl} (hs : Leads bs) {f : Nat} (ih : FOk bs f) {own b0 : Nat} : ∀ {l : List Int} {w : Wk} {post : List Int}, (∀ x, x ∈ l → 0 ≤ x ∧ x < (bs.length : Int)) → (∀ x, x ∈ l → x ∈ (bs.getD b0 bl0).succs) → own < w.order.length → WkI bs.length w → un w.rank bs.length ≤ f → PI bs w post → (∀ x, x ∈ w.order → x ∉ post → Reach bs x b0) →
    FOut bs w post (fvisits bs f own l (w, post)) ∧ ∀ x, x ∈ l → x ∈ (fvisits bs f own l (w, post)).1.order
  | [], w, post, _, _, _, h, _, hp, _ => by
    rw [fvisits]
    exact ⟨⟨h, .refl _, hp, fun x => Iff.rfl, ⟨[], by simp⟩⟩, fun x hx => by simp at hx⟩
  | s :: l, w, post, hl, hsu, ho, h, hu, hp, hr => by
    rw [fvisits]
    obtain ⟨h0, h1⟩ := hl s (by simp)
    obtain ⟨k, rfl⟩ : ∃ k : Nat, s = (k : Int) := ⟨s.toNat, by omega⟩
    have hk : k < bs.length := by omega
    show FOut bs w post (fvisits bs f own l (if w.rank (k : Int).toNat = -1 then _ else _)) ∧ ∀ x, x ∈ (k : Int) :: l → x ∈ (fvisits bs f own l (if w.rank (k : Int).toNat = -1 then _ else _)).1.order
    rw [Int.toNat_natCast]
    split
    · rename_i hrk
      have h2 := (ih k own w post hk hrk ⟨by omega, by omega, by omega⟩ h hu hp (fun x hx hn => (hr x hx hn).step (by rw [Int.toNat_natCast]; exact hsu k (by simp))))
      obtain ⟨h2, l2, hl2⟩ := h2
      have h3 := fvisits_ok hs ih (l := l) (own := own) (b0 := b0) (w := (fvisit bs f k own (w, post)).1) (post := (fvisit bs f k own (w, post)).2) (fun x hx => hl x (by simp [hx])) (fun x hx => hsu x (by simp [hx])) (by have := h2.x.len; omega) h2.i (Nat.le_trans (h.un_le h2.i h2.x) hu) h2.p (fun x hx hn => by
        have := (h2.same x).1 ⟨hx, hn⟩
        exact hr x this.1 this.2)
      refine ⟨h2.trans h3.1, fun x hx => ?_⟩
      rcases List.mem_cons.1 hx with rfl | hx
      · exact h3.1.x.mem (h2.p.sub _ (by rw [hl2]; simp))
      · exact h3.2 x hx
    · rename_i hrk
      have h3 := fvisits_ok hs ih (l := l) (own := own) (b0 := b0) (w := w) (post := post) (fun x hx => hl x (by simp [hx])) (fun x hx => hsu x (by simp [hx])) ho h hu hp hr
      refine ⟨h3.1, fun x hx => ?_⟩
      rcases List.mem_cons.1 hx with rfl | hx
      · exact h3.1.x.mem ((h.mem hk).2 hrk)
      · exact h3.2 x hx
theorem fvisit_ok {bs : List Bl} (hs : Leads bs) : ∀ f, FOk bs f
  | 0 => fun b p w post hb hr _ h hu _ _ => by have := un_pos hr hb; omega
  | f + 1 => fun b p w post hb hr hp h hu hpi hre => by
    have h1 := h.on hb hr hp
    have hu1 : un (w.on b p).rank bs.length ≤ f := by
      have e1 := h.cnt
      have e2 := h1.cnt
      have e3 : (w.on b p).order.length = w.order.length + 1 := by show (w.order ++ [(b : Int)]).length = _; simp
      omega
    have eo : (w.on b p).order = w.order ++ [(b : Int)] := rfl
    have hbn : (b : Int) ∉ w.order := fun hm => (h.mem hb).1 hm hr
    have h2 := fvisits_ok hs (fvisit_ok hs f) (own := w.order.length) (b0 := b) (l := (bs.getD b bl0).succs) (w := w.on b p) (post := post) (hs b hb) (fun x hx => hx) (by rw [eo]; simp) h1 hu1
      ⟨fun x hx => by rw [eo]; exact List.mem_append_left _ (hpi.sub x hx), hpi.nd, hpi.edge⟩
      (fun x hx hn => by
        rw [eo] at hx
        rcases List.mem_append.1 hx with hx | hx
        · exact hre x hx hn
        · rw [List.mem_singleton.1 hx]; exact .refl _ _)
    obtain ⟨h2, h3⟩ := h2
    obtain ⟨t, ht⟩ : ∃ t, t = fvisits bs f w.order.length (bs.getD b bl0).succs (w.on b p, post) := ⟨_, rfl⟩
    have ev : fvisit bs (f + 1) b p (w, post) = (t.1, t.2 ++ [(b : Int)]) := by rw [fvisit, Int.toNat_natCast, ht]
    rw [← ht] at h2 h3
    rw [ev]
    have hbt : (b : Int) ∈ t.1.order ∧ (b : Int) ∉ t.2 := (h2.same b).2 ⟨by rw [eo]; simp, fun hm => hbn (hpi.sub _ hm)⟩
    obtain ⟨l2, hl2⟩ := h2.grow
    refine ⟨⟨h2.i, (WkX.on w b p).trans h2.x, ⟨fun x hx => ?_, ?_, fun P k Q e s hsx => ?_⟩, fun x => ?_, ⟨l2 ++ [(b : Int)], by rw [hl2, List.append_assoc]⟩⟩, ⟨t.2, rfl⟩⟩
    · rcases List.mem_append.1 hx with hx | hx
      · exact h2.p.sub x hx
      · rw [List.mem_singleton.1 hx]; exact hbt.1
    · rw [List.nodup_append]
      refine ⟨h2.p.nd, by simp, fun a ha c hc e => ?_⟩
      rw [List.mem_singleton.1 hc] at e
      exact hbt.2 (e ▸ ha)
    · rcases List.eq_nil_or_concat Q with hQ | ⟨Q', q, hQ⟩
      · subst hQ
        have e1 := List.append_inj' e (by simp)
        obtain ⟨e1, e2⟩ := e1
        injection e2 with e2
        subst e2
        subst e1
        rw [Int.toNat_natCast] at hsx
        have h4 := h3 s hsx
        by_cases hm : s ∈ t.2
        · exact .inl hm
        · have h5 := (h2.same s).1 ⟨h4, hm⟩
          rw [eo] at h5
          rcases List.mem_append.1 h5.1 with h6 | h6
          · exact .inr (hre s h6 h5.2)
          · rw [List.mem_singleton.1 h6]; exact .inr (.refl _ _)
      · subst hQ
        have e0 : t.2 ++ [(b : Int)] = P ++ k :: Q'.concat q := e
        have e1 : t.2 ++ [(b : Int)] = (P ++ k :: Q') ++ [q] := by rw [e0]; simp
        have e2 := (List.append_inj' e1 (by simp)).1
        exact h2.p.edge P k Q' e2 s hsx
    · constructor
      · rintro ⟨hx, hn⟩
        have hn2 : x ∉ t.2 := fun hm => hn (List.mem_append_left _ hm)
        have h5 := (h2.same x).1 ⟨hx, hn2⟩
        rw [eo] at h5
        rcases List.mem_append.1 h5.1 with h6 | h6
        · exact ⟨h6, h5.2⟩
        · exact absurd (List.mem_append_right _ h6) hn
      · rintro ⟨hx, hn⟩
        have h5 := (h2.same x).2 ⟨by rw [eo]; exact List.mem_append_left _ hx, hn⟩
        refine ⟨h5.1, fun hm => ?_⟩
        rcases List.mem_append.1 hm with h6 | h6
        · exact h5.2 h6
        · rw [List.mem_singleton.1 h6] at hx; exact hbn hx
/-- **the whole walk** -/
theorem fwalk_ok {bs : List Bl} (hs : Leads bs) (h0 : 0 < bs.length) : WkI bs.length (fwalk bs).1 ∧ PI bs (fwalk bs).1 (fwalk bs).2 ∧ (∀ x, x ∈ (fwalk bs).2 ↔ x ∈ (fwalk bs).1.order) ∧ ∃ l, (fwalk bs).2 = l ++ [0] := by
  obtain ⟨h1, h2⟩ := fvisit_ok hs bs.length 0 (-1) wk0 [] h0 rfl ⟨by omega, by simp [wk0], by simp [wk0]⟩ (wk0_ok _) (by unfold wk0; rw [un0]; exact Nat.le_refl _) ⟨fun x hx => by simp at hx, by simp, fun P k Q e => by simp at e⟩ (fun x hx => by simp [wk0] at hx)
  refine ⟨h1.i, h1.p, fun x => ⟨h1.p.sub x, fun hx => ?_⟩, h2⟩
  by_cases hm : x ∈ (fwalk bs).2
  · exact hm
  · have := ((h1.same x).1 ⟨hx, hm⟩).1
    simp [wk0] at this
end Sa
namespace Sa
theorem least_pos : ∀ {f : Nat} {n known : Int} {s : Fo}, 0 ≤ n → 0 ≤ known → (∀ j : Nat, 0 ≤ s.low j) → 0 ≤ (least f n known s).1 ∧ ∀ j : Nat, 0 ≤ (least f n known s).2.low j
  | 0, n, known, s, hn, hk, hs => ⟨hn, hs⟩
  | f + 1, n, known, s, hn, hk, hs => by
    rw [least]
    split
    · exact ⟨hn, hs⟩
    · split
      · rename_i h1 h2
        have ih := least_pos (f := f) (n := s.up n.toNat) (known := known) (s := s) (by omega) hk hs
        have h3 := hs n.toNat
        refine ⟨by simp only; omega, fun j => ?_⟩
        simp only
        unfold setF
        split
        · omega
        · exact ih.2 j
      · exact ⟨hs _, hs⟩
theorem semiIn_nil (w : Wk) (i : Nat) (m : Int) (s : Fo) : semiIn w i [] m s = (m, s) := rfl
theorem semiIn_cons (w : Wk) (i : Nat) (p : Int) (l : List Int) (m : Int) (s : Fo) : semiIn w i (p :: l) m s = semiIn w i l (min m (least (i + w.order.length + 1) (w.rank p.toNat) i s).1) (least (i + w.order.length + 1) (w.rank p.toNat) i s).2 := rfl
theorem semiIn_pos {w : Wk} {i : Nat} : ∀ {l : List Int} {m : Int} {s : Fo}, 0 ≤ m → (∀ p, p ∈ l → 0 ≤ w.rank p.toNat) → (∀ j : Nat, 0 ≤ s.low j) → (0 ≤ (semiIn w i l m s).1 ∧ (semiIn w i l m s).1 ≤ m) ∧ ∀ j : Nat, 0 ≤ (semiIn w i l m s).2.low j
  | [], m, s, hm, hl, hs => ⟨⟨hm, Int.le_refl _⟩, hs⟩
  | p :: l, m, s, hm, hl, hs => by
    rw [semiIn_cons]
    have h1 := least_pos (f := i + w.order.length + 1) (n := w.rank p.toNat) (known := (i : Int)) (s := s) (hl p (by simp)) (by omega) hs
    have h2 := semiIn_pos (w := w) (i := i) (l := l) (m := min m (least (i + w.order.length + 1) (w.rank p.toNat) i s).1) (s := (least (i + w.order.length + 1) (w.rank p.toNat) i s).2) (by omega) (fun q hq => hl q (by simp [hq])) h1.2
    exact ⟨⟨h2.1.1, by have := h2.1.2; omega⟩, h2.2⟩
/-- the blocks that come to the i-th -/
def prs (bs : List Bl) (w : Wk) (i : Nat) : List Int := (bs.getD (w.order.getD i 0).toNat bl0).preds
def semiSt (bs : List Bl) (w : Wk) (i : Nat) (m : Nat → Int) (s : Fo) : (Nat → Int) × Fo :=
  (setF m (i + 1) (semiIn w (i + 1) (prs bs w (i + 1)) (i + 1 : Nat) s).1, ⟨(semiIn w (i + 1) (prs bs w (i + 1)) (i + 1 : Nat) s).2.up, setF (semiIn w (i + 1) (prs bs w (i + 1)) (i + 1 : Nat) s).2.low (i + 1) (semiIn w (i + 1) (prs bs w (i + 1)) (i + 1 : Nat) s).1⟩)
theorem semiAll_zero (bs : List Bl) (w : Wk) (m : Nat → Int) (s : Fo) : semiAll bs w 0 m s = m := rfl
theorem semiAll_succ (bs : List Bl) (w : Wk) (i : Nat) (m : Nat → Int) (s : Fo) : semiAll bs w (i + 1) m s = semiAll bs w i (semiSt bs w i m s).1 (semiSt bs w i m s).2 := rfl
/-- what the program's walk is, of ways that are right -/
structure WkO (bs : List Bl) (w : Wk) : Prop where
  i : WkI bs.length w
  o0 : 0 < w.order.length ∧ w.order.getD 0 0 = 0 ∧ w.parent.getD 0 0 = -1
  p : ∀ b : Nat, b < bs.length → ∀ x, x ∈ (bs.getD b bl0).preds → 0 ≤ x ∧ x < (bs.length : Int) ∧ 0 ≤ w.rank x.toNat ∧ w.rank x.toNat < (w.order.length : Int)
theorem prs_ok {bs : List Bl} {w : Wk} (h : WkO bs w) (i : Nat) : ∀ p, p ∈ prs bs w i → 0 ≤ p ∧ p < (bs.length : Int) ∧ 0 ≤ w.rank p.toNat ∧ w.rank p.toNat < (w.order.length : Int) := by
  intro p hp
  unfold prs at hp
  by_cases hi : i < w.order.length
  · obtain ⟨b, hb, hb1, _⟩ := h.i.ord i hi
    rw [hb1, Int.toNat_natCast] at hp
    exact h.p b hb p hp
  · rw [List.getD_eq_getElem?_getD (l := w.order), List.getElem?_eq_none (by omega)] at hp
    have h0 : 0 < bs.length := by have := h.i.le; have := h.o0.1; omega
    exact h.p 0 h0 p hp
theorem semiSt_pos {bs : List Bl} {w : Wk} (h : WkO bs w) {i : Nat} {m : Nat → Int} {s : Fo} (hm : ∀ j : Nat, 0 ≤ m j ∧ m j ≤ j) (hs : ∀ j : Nat, 0 ≤ s.low j) : (∀ j : Nat, 0 ≤ (semiSt bs w i m s).1 j ∧ (semiSt bs w i m s).1 j ≤ j) ∧ ∀ j : Nat, 0 ≤ (semiSt bs w i m s).2.low j := by
  have h1 := semiIn_pos (w := w) (i := i + 1) (l := prs bs w (i + 1)) (m := ((i + 1 : Nat) : Int)) (s := s) (by omega) (fun p hp => (prs_ok h _ p hp).2.2.1) hs
  refine ⟨fun j => ?_, fun j => ?_⟩
  · unfold semiSt setF
    simp only
    split
    · rename_i e; subst e; exact h1.1
    · exact hm j
  · unfold semiSt setF
    simp only
    split
    · exact h1.1.1
    · exact h1.2 j
theorem semiAll_pos {bs : List Bl} {w : Wk} (h : WkO bs w) : ∀ {i : Nat} {m : Nat → Int} {s : Fo}, (∀ j : Nat, 0 ≤ m j ∧ m j ≤ j) → (∀ j : Nat, 0 ≤ s.low j) → ∀ j : Nat, 0 ≤ semiAll bs w i m s j ∧ semiAll bs w i m s j ≤ j
  | 0, m, s, hm, hs => hm
  | i + 1, m, s, hm, hs => by
    rw [semiAll_succ]
    have h1 := semiSt_pos h (i := i) hm hs
    exact semiAll_pos h h1.1 h1.2
theorem semis_pos {bs : List Bl} {w : Wk} (h : WkO bs w) (j : Nat) : 0 ≤ semis bs w j ∧ semis bs w j ≤ j := semiAll_pos h (fun j => ⟨Int.le_refl _, by simp⟩) (fun _ => Int.le_refl _) j
end Sa
end Go.Proofs.Ytbpdggdpgohilaa
namespace Go.Proofs.Ytbpdggdpgohilaa
open Go.RowKit
set_option linter.unusedVariables false
set_option maxRecDepth 100000
set_option maxHeartbeats 8000000
/-- a value as it is handed over -/
abbrev vlV (v : Sa.Vl) (a : Option Addr) (k : Nat) : Array Value := #[.int .i64 v.op, .int .i64 v.kind, .slice a v.args.length k, .int .i64 v.n, .int .i64 v.m]
/-- numbers of the reader's own -/
structure NumF (N : Nat) (w : World) (v : Value) (n : Nat) (f : Nat → Int) : Prop where
  own : OwnN w N v n f
theorem natB (L k : Nat) : ((L : Int) == (k : Int)) = (L == k) := by
  rw [Bool.eq_iff_iff, beq_iff_eq, beq_iff_eq]
  omega
theorem CdL.num {B : Nat → Prop} {w : World} {a : Option Addr} {k : Nat} {l : List Sa.Cd} (h : CdL B w a k l) {n : Nat} (hn : n < l.length) : ∃ b o a1 a2 a3 a4 k1 k2 k3 k4, a = some ⟨b, o, none⟩ ∧ B b ∧ CdC B w b (o + n * 4) (l.getD n Sa.cd0) a1 a2 a3 a4 k1 k2 k3 k4 := by
  obtain ⟨b, o, e, hb, a1, a2, a3, a4, k1, k2, k3, k4, h⟩ := h.at hn
  refine ⟨b, o, a1, a2, a3, a4, k1, k2, k3, k4, e, hb, ?_⟩
  rw [show l.getD n Sa.cd0 = l[n] by simp [List.getD_eq_getElem?_getD, hn]]
  exact h
/-- a block as it is handed over -/
abbrev blV (b : Sa.Bl) (a1 a2 a3 a4 : Option Addr) (k1 k2 k3 k4 : Nat) : Array Value := #[.int .i64 b.kind, .int .i64 b.n, .slice a1 b.args.length k1, .slice a2 b.preds.length k2, .slice a3 b.succs.length k3, .slice a4 b.list.length k4]
/-- values' numbers: each one's a value's -/
def Sa.inVals (c : Sa.Cd) (l : List Int) : Prop := ∀ x, x ∈ l → 0 ≤ x ∧ x < (c.values.length : Int)
theorem Sa.areVals_in {c : Sa.Cd} {l : List Int} (h : Sa.areVals c l = true) : Sa.inVals c l := fun x hx => (Sa.isVal_iff.1 (List.all_eq_true.1 h x hx)).1
end Go.Proofs.Ytbpdggdpgohilaa
