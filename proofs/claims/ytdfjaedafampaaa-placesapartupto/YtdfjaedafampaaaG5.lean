/- What the walk over an entry's words keeps. -/
import Derived.Test.YtdfjaedafampaaaG4
namespace Go.Proofs.Ytdfjaedafampaaa
open Go.RowKit
set_option linter.unusedVariables false

/-- a row that was appended to lies where it lay, or is new -/
theorem app_block {w : World} {base : Nat} {v : Value} {l : List Int} (hown : OwnZ w base v l) (ad : Addr) (m : List Int) (c : Nat) (hm : 0 < m.length) (hnews : ∀ j u, (m.map (Value.int .i64))[j]? = some u → w.cell? (ad.add j) = some u)
    (hl : l.length ≤ 2000000) (hml : m.length ≤ 2000000) (ty : TypeId) {v' : Value} {w' : World} (hr : (Builtin.append_ #[24, 24] ty #[v, .slice (some ad) m.length c]).run Try.prog w = .ok v' w') : v'.ownBlock = v.ownBlock ∨ v'.ownBlock = some w.heap.size := by
  obtain ⟨i, hi, hz0, hz1, hz2⟩ := info_parts info_int
  have h1 : ∀ u ∈ m.map (Value.int .i64), u.oneCell' = true := by intro y hy; obtain ⟨z, _, rfl⟩ := List.mem_map.mp hy; rfl
  rcases hown.2 with ⟨rfl, h0⟩ | ⟨g, cap, cur, rfl, hbg, hg, hnc, hcm, hcs, htake⟩
  · have := run_append_nil (P := Try.prog) w 24 ty 3 i (.int .i64 0) Try.underlying24 hi hz0 ad m.length c (m.map (Value.int .i64)) (by rw [hz1]; simp) hnews (by omega) (by omega) (by rw [hz2]; omega)
    rw [hr] at this
    injection this with e1 e2
    subst e1
    exact .inr rfl
  · by_cases hroom : l.length + m.length ≤ cap
    · have := run_append_room (P := Try.prog) w 24 ty 3 i Try.underlying24 hi g l.length cap cur hg ad m.length c (m.map (Value.int .i64)) (by rw [hz1]; simp) hnews h1 hroom (by rw [hz1, hcs]; simp; omega)
      rw [hr] at this
      injection this with e1 e2
      subst e1
      exact .inl rfl
    · have := run_append_grow (P := Try.prog) w 24 ty 3 i (.int .i64 0) Try.underlying24 hi hz0 ⟨g, 0, none⟩ l.length cap (l.map (Value.int .i64)) (by rw [hz1]; simp) (hown.cells (g := g) rfl) ad m.length c (m.map (Value.int .i64)) (by rw [hz1]; simp) hnews (by omega) (by omega) (by rw [hz2]; exact growslice_fits (by omega) (by omega))
      rw [hr] at this
      injection this with e1 e2
      subst e1
      exact .inr rfl
/-- numbers appended that lie in a row of their own, and where the row lies then -/
theorem wp_appZx {ops : Array Oper} {rest : List Oper} {o : Oper} {a : Act} {Q : Exit → Act → World → Prop} {W : World} (hgd : o.guard = none) (s x : Operand)
    (ho : o.op = .call { callee := .builtin .append, args := #[s, x], argTypes := #[24, 24] }) (base : Nat) (v : Value) (l m : List Int) (T c b2 : Nat) (hs : a.eval s = v) (hown : OwnZ W base v l)
    (hx : a.eval x = .slice (some ⟨T, 0, none⟩) m.length c) (hsrc : OwnZ W b2 (.slice (some ⟨T, 0, none⟩) m.length c) m) (h0 : 0 < m.length) (hl : l.length ≤ 2000000) (hm : m.length ≤ 2000000) (hb : base ≤ W.heap.size)
    (h : ∀ v' w', OwnZ w' base v' (l ++ m) → W.grownBy w' v.ownBlock → (v'.ownBlock = v.ownBlock ∨ v'.ownBlock = some W.heap.size) → wpList Try.prog ops Q rest (a.put o.dst v') w') : wpList Try.prog ops Q (o :: rest) a W := by
  obtain ⟨i, hi, hz0, hz1, hz2⟩ := info_parts info_int
  have hn : ∀ j u, (m.map (Value.int .i64))[j]? = some u → W.cell? ((⟨T, 0, none⟩ : Addr).add j) = some u := fun j y hj => World.ownsRow.cells hsrc rfl j y hj
  obtain ⟨v', w', hr, h2, h3, h4⟩ := run_append_own (P := Try.prog) W base 24 o.type 3 i (.int .i64 0) 1 8 Try.underlying24 hi hz0 hz1 hz2 rfl (by decide) v l.length (l.map (Value.int .i64)) hown ⟨T, 0, none⟩ m.length c (m.map (Value.int .i64)) (by simp) hn
    (by intro y hy; obtain ⟨z, _, rfl⟩ := List.mem_map.mp hy; rfl) (by unfold maxLen; omega) (by omega) hb
  have hbk := app_block hown ⟨T, 0, none⟩ m c h0 hn hl hm o.type hr
  refine wpList_plain hgd fun K hK => ?_
  unfold Oper.wp execOp
  simp only [ho, resolve, invoke, builtin, Sem.run_bind, Sem.run_pure, Result.andThen_ok, List.map_toArray, List.map_cons, List.map_nil, hs, hx, hr]
  refine hK _ _ (h v' w' ?_ h3 hbk)
  unfold OwnZ
  rw [List.length_append, List.map_append]
  exact h2
/-- one appended -/
theorem wp_appY1 {ops : Array Oper} {rest : List Oper} {o : Oper} {a : Act} {Q : Exit → Act → World → Prop} {W : World} (hgd : o.guard = none) (s x : Operand)
    (ho : o.op = .call { callee := .builtin .append, args := #[s, x], argTypes := #[24, 24] }) (base : Nat) (v : Value) (l : List Int) (X : Int) (hs : a.eval s = v) (hown : OwnZ W base v l)
    {nb : Nat} (hx : a.eval x = .slice (some ⟨nb, 0, none⟩) 1 1) (hnb : nb = W.heap.size) (hl : l.length ≤ 2000000) (hb : base ≤ W.heap.size)
    (h : ∀ v' w', OwnZ w' base v' (l ++ [X]) → W.grownBy w' v.ownBlock → (∀ q, v'.ownBlock = some q → v.ownBlock = some q ∨ W.heap.size ≤ q) → wpList Try.prog ops Q rest (a.put o.dst v') w') : wpList Try.prog ops Q (o :: rest) a (W.alloc (Obj.cells #[.int .i64 X] 3)) := by
  subst hnb
  have hl1 : OwnZ (W.alloc (Obj.cells #[.int .i64 X] 3)) W.heap.size (.slice (some ⟨W.heap.size, 0, none⟩) 1 1) [X] := World.ownsRow_lit (base := W.heap.size) (e := 3) (size := 1) W #[.int .i64 X] 1 (Nat.le_refl _) (by decide) rfl
  refine wp_appZx hgd s x ho base v l [X] W.heap.size 1 _ hs (hown.grow (World.grownBy_alloc _ _ _)) hx hl1 (by simp) hl (by simp) (by simp; omega) ?_
  intro v' w' ho' hg' hq
  refine h v' w' ho' (grown_trans (grown_noneR _ (World.grownBy_alloc _ _ _)) hg') (fun q hv => ?_)
  rcases hq with e | e
  · exact .inl (e ▸ hv)
  · rw [e] at hv; simp at hv; exact .inr (by omega)
/-- two appended -/
theorem wp_appY2 {ops : Array Oper} {rest : List Oper} {o : Oper} {a : Act} {Q : Exit → Act → World → Prop} {W : World} (hgd : o.guard = none) (s x : Operand)
    (ho : o.op = .call { callee := .builtin .append, args := #[s, x], argTypes := #[24, 24] }) (base : Nat) (v : Value) (l : List Int) (X Y : Int) (hs : a.eval s = v) (hown : OwnZ W base v l)
    {nb : Nat} (hx : a.eval x = .slice (some ⟨nb, 0, none⟩) 2 2) (hnb : nb = W.heap.size) (hl : l.length ≤ 2000000) (hb : base ≤ W.heap.size)
    (h : ∀ v' w', OwnZ w' base v' (l ++ [X, Y]) → W.grownBy w' v.ownBlock → (∀ q, v'.ownBlock = some q → v.ownBlock = some q ∨ W.heap.size ≤ q) → wpList Try.prog ops Q rest (a.put o.dst v') w') : wpList Try.prog ops Q (o :: rest) a (W.alloc (Obj.cells #[.int .i64 X, .int .i64 Y] 3)) := by
  subst hnb
  have hl1 : OwnZ (W.alloc (Obj.cells #[.int .i64 X, .int .i64 Y] 3)) W.heap.size (.slice (some ⟨W.heap.size, 0, none⟩) 2 2) [X, Y] := World.ownsRow_lit (base := W.heap.size) (e := 3) (size := 1) W #[.int .i64 X, .int .i64 Y] 2 (Nat.le_refl _) (by decide) rfl
  refine wp_appZx hgd s x ho base v l [X, Y] W.heap.size 2 _ hs (hown.grow (World.grownBy_alloc _ _ _)) hx hl1 (by simp) hl (by simp) (by simp; omega) ?_
  intro v' w' ho' hg' hq
  refine h v' w' ho' (grown_trans (grown_noneR _ (World.grownBy_alloc _ _ _)) hg') (fun q hv => ?_)
  rcases hq with e | e
  · exact .inl (e ▸ hv)
  · rw [e] at hv; simp at hv; exact .inr (by omega)
/-- the five variables of the walk lie from M on: the table, the asker, kinds, offsets, the walk itself -/
structure Ws (N : Nat) (w : World) (T : Nat → Ty.TyV) (n : Nat) (a : Option Addr) (c bf bt ba F M : Nat) (vK vO : Value) (ks os : List Int) : Prop where
  A : Ak N w T n a c bf bt ba F
  l1 : bf < M
  l2 : bt < M
  l3 : ba < M
  l4 : F < M
  ct : w.cell? ⟨M, 0, none⟩ = some (.slice a n c)
  ck : w.cell? ⟨M + 1, 0, none⟩ = some (.func (.func 49) #[] #[.pointer (some ⟨bf, 0, none⟩), .pointer (some ⟨bt, 0, none⟩), .pointer (some ⟨ba, 0, none⟩)])
  cK : w.cell? ⟨M + 2, 0, none⟩ = some vK
  cO : w.cell? ⟨M + 3, 0, none⟩ = some vO
  cw : w.cell? ⟨M + 4, 0, none⟩ = some (.func (.func 52) #[] #[.pointer (some ⟨M, 0, none⟩), .pointer (some ⟨M + 1, 0, none⟩), .pointer (some ⟨M + 4, 0, none⟩), .pointer (some ⟨M + 2, 0, none⟩), .pointer (some ⟨M + 3, 0, none⟩)])
  zK : w.frozen? ⟨M + 2, 0, none⟩ = false
  zO : w.frozen? ⟨M + 3, 0, none⟩ = false
  oK : OwnZ w (M + 5) vK ks
  oO : OwnZ w (M + 5) vO os
  ap : ∀ q, vK.ownBlock = some q → vO.ownBlock ≠ some q
theorem Ws.sz {N : Nat} {w : World} {T : Nat → Ty.TyV} {n : Nat} {a : Option Addr} {c bf bt ba F M : Nat} {vK vO : Value} {ks os : List Int} (h : Ws N w T n a c bf bt ba F M vK vO ks os) : M + 4 < w.heap.size := World.block_lt_of_cell? _ _ h.cw
/-- the asker has gone on -/
theorem Ws.asked {N : Nat} {w w' : World} {T : Nat → Ty.TyV} {n : Nat} {a : Option Addr} {c bf bt ba F M : Nat} {vK vO : Value} {ks os : List Int} (h : Ws N w T n a c bf bt ba F M vK vO ks os) (hA : Ak N w' T n a c bf bt ba F) (hg : Ch w w' [F]) : Ws N w' T n a c bf bt ba F M vK vO ks os := by
  have l4 := h.l4
  have hs := h.sz
  exact ⟨hA, h.l1, h.l2, h.l3, h.l4, hg.cell h.ct (by simp; omega), hg.cell h.ck (by simp; omega), hg.cell h.cK (by simp; omega), hg.cell h.cO (by simp; omega), hg.cell h.cw (by simp; omega), frozen_ch hg (by omega) (by simp; omega) h.zK, frozen_ch hg (by omega) (by simp; omega) h.zO,
    h.oK.ch hg (fun q hq => by have := h.oK.base q hq; simp; omega), h.oO.ch hg (fun q hq => by have := h.oO.base q hq; simp; omega), h.ap⟩
theorem Ws.grow {N : Nat} {w w' : World} {T : Nat → Ty.TyV} {n : Nat} {a : Option Addr} {c bf bt ba F M : Nat} {vK vO : Value} {ks os : List Int} (h : Ws N w T n a c bf bt ba F M vK vO ks os) (hg : w.grownBy w' none) : Ws N w' T n a c bf bt ba F M vK vO ks os :=
  h.asked (h.A.grow hg) (Ch.of hg)
/-- which blocks the walk turns -/
def wl (F M : Nat) (vK vO : Value) : List Nat := F :: (M + 2) :: (M + 3) :: (vK.ownBlock.toList ++ vO.ownBlock.toList)
theorem wl_mem {F M : Nat} {vK vO : Value} {q : Nat} : q ∈ wl F M vK vO ↔ q = F ∨ q = M + 2 ∨ q = M + 3 ∨ vK.ownBlock = some q ∨ vO.ownBlock = some q := by
  unfold wl
  simp only [List.mem_cons, List.mem_append, Option.mem_toList]
/-- how the walk goes on -/
structure Wm (F M : Nat) (w w' : World) (vK vO vK' vO' : Value) : Prop where
  ch : Ch w w' (wl F M vK vO)
  nk : ∀ q, vK'.ownBlock = some q → vK.ownBlock = some q ∨ w.heap.size ≤ q
  no : ∀ q, vO'.ownBlock = some q → vO.ownBlock = some q ∨ w.heap.size ≤ q
theorem Wm.refl (F M : Nat) (w : World) (vK vO : Value) : Wm F M w w vK vO vK vO := ⟨Ch.refl _ _, fun _ h => .inl h, fun _ h => .inl h⟩
theorem Wm.trans {F M : Nat} {w w1 w2 : World} {vK vO vK1 vO1 vK2 vO2 : Value} (h1 : Wm F M w w1 vK vO vK1 vO1) (h2 : Wm F M w1 w2 vK1 vO1 vK2 vO2) : Wm F M w w2 vK vO vK2 vO2 := by
  have hs := h1.ch.size
  refine ⟨⟨h2.ch.os.trans h1.ch.os, h2.ch.tape.trans h1.ch.tape, h2.ch.output.trans h1.ch.output, Nat.le_trans hs h2.ch.size, fun k hk hn => ?_⟩, fun q hq => ?_, fun q hq => ?_⟩
  · refine (h2.ch.block k (by omega) (fun hm => hn ?_)).trans (h1.ch.block k hk hn)
    rw [wl_mem] at hm ⊢
    rcases hm with h | h | h | h | h
    · exact .inl h
    · exact .inr (.inl h)
    · exact .inr (.inr (.inl h))
    · rcases h1.nk k h with h | h
      · exact .inr (.inr (.inr (.inl h)))
      · omega
    · rcases h1.no k h with h | h
      · exact .inr (.inr (.inr (.inr h)))
      · omega
  · rcases h2.nk q hq with h | h
    · exact h1.nk q h
    · exact .inr (by omega)
  · rcases h2.no q hq with h | h
    · exact h1.no q h
    · exact .inr (by omega)
theorem Wm.of {F M : Nat} {w w' : World} {vK vO : Value} (h : Ch w w' [F]) : Wm F M w w' vK vO vK vO := ⟨h.mono (fun k _ hk => by rw [wl_mem]; simp at hk; exact .inl hk), fun _ h => .inl h, fun _ h => .inl h⟩
theorem grown_ch {w w' : World} {v : Value} (hg : w.grownBy w' v.ownBlock) : Ch w w' v.ownBlock.toList := ⟨hg.os, hg.tape, hg.output, hg.size, fun k hk hn => hg.block k hk (fun e => hn (by rw [← e]; simp))⟩
/-- kinds appended and kept -/
theorem Ws.putK {N : Nat} {w w1 : World} {T : Nat → Ty.TyV} {n : Nat} {a : Option Addr} {c bf bt ba F M : Nat} {vK vO vK' : Value} {ks os ks' : List Int} (h : Ws N w T n a c bf bt ba F M vK vO ks os)
    (ho : OwnZ w1 (M + 5) vK' ks') (hg : w.grownBy w1 vK.ownBlock) (hq : ∀ q, vK'.ownBlock = some q → vK.ownBlock = some q ∨ w.heap.size ≤ q) :
    Ws N (w1.setCell ⟨M + 2, 0, none⟩ vK') T n a c bf bt ba F M vK' vO ks' os ∧ Wm F M w (w1.setCell ⟨M + 2, 0, none⟩ vK') vK vO vK' vO := by
  have hs := h.sz
  have hNF := h.A.nF
  have l1 := h.l1
  have l2 := h.l2
  have l3 := h.l3
  have l4 := h.l4
  have bK := h.oK.base
  have c1 : Ch w w1 ((M + 2) :: vK.ownBlock.toList) := (grown_ch hg).mono (fun k _ hk => by simp at hk ⊢; exact .inr hk)
  have c2 : Ch w1 (w1.setCell ⟨M + 2, 0, none⟩ vK') ((M + 2) :: vK.ownBlock.toList) := Ch.one (grown_set _ _ _ _) (by simp)
  have c0 := c1.trans c2
  have nb : ∀ q, q < M + 5 → q ≠ M + 2 → q ∉ (M + 2) :: vK.ownBlock.toList := fun q h1 h2 hm => by
    simp at hm
    rcases hm with e | e
    · exact h2 e
    · have := bK q e; omega
  have cK1 : w1.cell? ⟨M + 2, 0, none⟩ = some vK := (grown_ch hg).cell h.cK (by simp; intro e; have := bK _ e; omega)
  refine ⟨⟨h.A.ch c0 (fun k hk => ?_) (nb _ (by omega) (by omega)) (nb _ (by omega) (by omega)) (nb _ (by omega) (by omega)) (nb _ (by omega) (by omega)), l1, l2, l3, l4, c0.cell h.ct (nb _ (by omega) (by omega)), c0.cell h.ck (nb _ (by omega) (by omega)), World.cell?_setCell_same _ _ _ cK1, c0.cell h.cO (nb _ (by omega) (by omega)), c0.cell h.cw (nb _ (by omega) (by omega)), ?_, frozen_ch c0 (by omega) (nb _ (by omega) (by omega)) h.zO, ?_, ?_, ?_⟩, ⟨c0.mono (fun k _ hk => ?_), hq, fun _ h => .inl h⟩⟩
  · simp at hk
    rcases hk with e | e
    · omega
    · have := bK k e; omega
  · rw [World.frozen?_setCell]
    exact frozen_ch (grown_ch hg) (by omega) (by simp; intro e; have := bK _ e; omega) h.zK
  · exact ho.ch (l := [M + 2]) (Ch.one (grown_set _ _ _ _) (by simp)) (fun q hq' => by have := ho.base q hq'; simp; omega)
  · exact h.oO.ch c0 (fun q hq' hm => by
      simp at hm
      rcases hm with e | e
      · have := h.oO.base q hq'; omega
      · exact h.ap q e hq')
  · intro q hq'
    rcases hq q hq' with e | e
    · exact h.ap q e
    · intro e2; have := h.oO.lt q e2; omega
  · rw [wl_mem]
    simp at hk
    rcases hk with e | e
    · exact .inr (.inl e)
    · exact .inr (.inr (.inr (.inl e)))
/-- offsets appended and kept -/
theorem Ws.putO {N : Nat} {w w1 : World} {T : Nat → Ty.TyV} {n : Nat} {a : Option Addr} {c bf bt ba F M : Nat} {vK vO vO' : Value} {ks os os' : List Int} (h : Ws N w T n a c bf bt ba F M vK vO ks os)
    (ho : OwnZ w1 (M + 5) vO' os') (hg : w.grownBy w1 vO.ownBlock) (hq : ∀ q, vO'.ownBlock = some q → vO.ownBlock = some q ∨ w.heap.size ≤ q) :
    Ws N (w1.setCell ⟨M + 3, 0, none⟩ vO') T n a c bf bt ba F M vK vO' ks os' ∧ Wm F M w (w1.setCell ⟨M + 3, 0, none⟩ vO') vK vO vK vO' := by
  have hs := h.sz
  have hNF := h.A.nF
  have l1 := h.l1
  have l2 := h.l2
  have l3 := h.l3
  have l4 := h.l4
  have bO := h.oO.base
  have c1 : Ch w w1 ((M + 3) :: vO.ownBlock.toList) := (grown_ch hg).mono (fun k _ hk => by simp at hk ⊢; exact .inr hk)
  have c2 : Ch w1 (w1.setCell ⟨M + 3, 0, none⟩ vO') ((M + 3) :: vO.ownBlock.toList) := Ch.one (grown_set _ _ _ _) (by simp)
  have c0 := c1.trans c2
  have nb : ∀ q, q < M + 5 → q ≠ M + 3 → q ∉ (M + 3) :: vO.ownBlock.toList := fun q h1 h2 hm => by
    simp at hm
    rcases hm with e | e
    · exact h2 e
    · have := bO q e; omega
  have cO1 : w1.cell? ⟨M + 3, 0, none⟩ = some vO := (grown_ch hg).cell h.cO (by simp; intro e; have := bO _ e; omega)
  refine ⟨⟨h.A.ch c0 (fun k hk => ?_) (nb _ (by omega) (by omega)) (nb _ (by omega) (by omega)) (nb _ (by omega) (by omega)) (nb _ (by omega) (by omega)), l1, l2, l3, l4, c0.cell h.ct (nb _ (by omega) (by omega)), c0.cell h.ck (nb _ (by omega) (by omega)), c0.cell h.cK (nb _ (by omega) (by omega)), World.cell?_setCell_same _ _ _ cO1, c0.cell h.cw (nb _ (by omega) (by omega)), frozen_ch c0 (by omega) (nb _ (by omega) (by omega)) h.zK, ?_, ?_, ?_, ?_⟩, ⟨c0.mono (fun k _ hk => ?_), fun _ h => .inl h, hq⟩⟩
  · simp at hk
    rcases hk with e | e
    · omega
    · have := bO k e; omega
  · rw [World.frozen?_setCell]
    exact frozen_ch (grown_ch hg) (by omega) (by simp; intro e; have := bO _ e; omega) h.zO
  · exact h.oK.ch c0 (fun q hq' hm => by
      simp at hm
      rcases hm with e | e
      · have := h.oK.base q hq'; omega
      · exact h.ap q hq' e)
  · exact ho.ch (l := [M + 3]) (Ch.one (grown_set _ _ _ _) (by simp)) (fun q hq' => by have := ho.base q hq'; simp; omega)
  · intro q hq' e2
    rcases hq q e2 with e | e
    · exact h.ap q hq' e
    · have := h.oK.lt q hq'; omega
  · rw [wl_mem]
    simp at hk
    rcases hk with e | e
    · exact .inr (.inr (.inl e))
    · exact .inr (.inr (.inr (.inr e)))
end Go.Proofs.Ytdfjaedafampaaa
