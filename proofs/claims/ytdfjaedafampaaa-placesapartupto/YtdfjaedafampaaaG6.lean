/- Contracts and plain facts that the walks share. -/
import Derived.Test.YtdfjaedafampaaaG2
import Derived.Test.YtdfjaedafampaaaTyWords
import Derived.Laws.AppendOwnNone
namespace Go.Proofs.Ytdfjaedafampaaa
open Go.RowKit
set_option linter.unusedVariables false
/-- an entry that came in -/
def TyQ (W : World) (b o : Nat) (x : Ty.TyV) : Prop := (∃ fa fc, TyC W.heap.size W b o x fa fc) ∧ x.nf * 8 ≤ reachBytes
set_option maxRecDepth 100000 in
theorem open_types {H : Type} {enc : TypeId × Value → H} {W : World} {spare : Nat → Bool} {held : Bool} {fuel : Nat} {cs : List Value} {x : DataW H × List MemPlace}
    (h : DataW.trod enc Try.prog W 0 spare held fuel 23 cs = some x) (hs : Fits 23 x.1) : ∃ a len cap V, cs = [.slice a len cap] ∧ RowB 4 48 TyQ W a len cap V := by
  have c3 : Try.prog.cellsOf 3 = 1 := by kernel_rfl
  have c4 : Try.prog.cellsOf 24 = 1 := by kernel_rfl
  refine open_rowB ⟨0, 0, 0, 0, fun _ => 0⟩ TyQ Try.underlying23 (c := 4) (by kernel_rfl) (by decide) (by kernel_rfl) hs (fun n cs b o y hl hb hc hy hz => ?_) h
  obtain ⟨xs, kk, hk, hxy, _, hxl, hf⟩ := DataW.trod_struct Try.underlying50 hy
  match xs, hxl, cs, hl with
  | [z0, z1, z2, z3], _, [v0, v1, v2, v3], _ =>
    have g0 := hf 0 _ rfl
    have g1 := hf 1 _ rfl
    have g2 := hf 2 _ rfl
    have g3 := hf 3 _ rfl
    simp [c3, c4] at g0 g1 g2 g3
    obtain ⟨n0, e0, _⟩ := DataW.trod_int Try.underlying3 g0
    obtain ⟨n1, e1, _⟩ := DataW.trod_int Try.underlying3 g1
    obtain ⟨n2, e2, _⟩ := DataW.trod_int Try.underlying3 g2
    obtain ⟨a3, l3, p3, V3, e3, f3⟩ := open_nums g3 (hz.field Try.underlying50 hxy (i := 3) rfl rfl)
    simp at e0 e1 e2 e3
    subst e0 e1 e2 e3
    exact ⟨⟨n0, n1, n2, l3, V3⟩, ⟨a3, p3, hc 0 _ rfl, hc 1 _ rfl, hc 2 _ rfl, hc 3 _ rfl, f3.num, f3.nil⟩, f3.fits⟩
theorem RowB.tys {W : World} {a : Option Addr} {len cap : Nat} {V : Nat → Ty.TyV} (h : RowB 4 48 TyQ W a len cap V) : TysIn W.heap.size W a len cap V ∧ ∀ i, i < len → (V i).nf * 8 ≤ reachBytes := by
  refine ⟨⟨h.le, h.max, ?_⟩, ?_⟩
  · rcases h.bs with h0 | ⟨b, off, e, hl, hq⟩
    · exact .inl h0
    · exact .inr ⟨b, off, e, hl, fun i hi => (hq i hi).1⟩
  · rcases h.bs with h0 | ⟨b, off, e, hl, hq⟩
    · exact fun i hi => by omega
    · exact fun i hi => (hq i hi).2
/-- what is asked: a table, entries, fields -/
structure TbV where
  ta : Option Addr
  tn : Nat
  tc : Nat
  T : Nat → Ty.TyV
  ia : Option Addr
  im : Nat
  ic : Nat
  I : Nat → Int
  fa : Option Addr
  fm : Nat
  fc : Nat
  F : Nat → Int
structure TbAt (W : World) (b o : Nat) (v : TbV) : Prop where
  c0 : W.cell? ⟨b, o, none⟩ = some (.slice v.ta v.tn v.tc)
  c1 : W.cell? ⟨b, o + 1, none⟩ = some (.slice v.ia v.im v.ic)
  c2 : W.cell? ⟨b, o + 2, none⟩ = some (.slice v.fa v.fm v.fc)
  t : TysIn W.heap.size W v.ta v.tn v.tc v.T
  tf : ∀ i, i < v.tn → (v.T i).nf * 8 ≤ reachBytes
  tz : v.tn * 48 ≤ reachBytes
  i : NumIn W.heap.size W v.ia v.im v.ic v.I
  f : NumIn W.heap.size W v.fa v.fm v.fc v.F
/-- a block of numbers -/
def IntB (w : World) (b : Nat) : Prop := ∃ cur, w.heap[b]? = some (.cells cur 3 (0, 0))
theorem IntB.lt {w : World} {b : Nat} (h : IntB w b) : b < w.heap.size := by obtain ⟨cur, h⟩ := h; exact (Array.getElem?_eq_some_iff.1 h).1
theorem IntB.ch {w w' : World} {b : Nat} {l : List Nat} (h : IntB w b) (hg : Ch w w' l) (hb : b ∉ l) : IntB w' b := by
  have hl := h.lt
  obtain ⟨cur, h⟩ := h
  exact ⟨cur, (hg.block b hl hb).trans h⟩
theorem NumIn.grow {N : Nat} {w w' : World} {a : Option Addr} {n c : Nat} {M : Nat → Int} (h : NumIn N w a n c M) (hg : w.grownBy w' none) : NumIn N w' a n c M := h.ch (l := []) (Ch.of hg) (by simp)
theorem OwnZ.numIn {w : World} {base : Nat} {v : Value} {l : List Int} {M : Nat → Int} {n : Nat} (h : OwnZ w base v l) (hn : l.length = n) (hM : ∀ i, i < n → l.getD i 0 = M i) : ∃ a c, v = .slice a n c ∧ NumIn w.heap.size w a n c M := by
  subst hn
  obtain ⟨a, c, rfl, h1, h2, h3⟩ := h.slice
  refine ⟨a, c, rfl, h1, h2, ?_⟩
  by_cases h0 : l.length = 0
  · exact .inl h0
  · obtain ⟨T, rfl, _, hT⟩ := h3 (by omega)
    exact .inr ⟨T, 0, rfl, hT, fun i hi => by rw [Nat.zero_add, ← hM i hi]; exact h.n.cell hi⟩
theorem NumIn.ch2 {N : Nat} {w w' : World} {a : Option Addr} {n c : Nat} {M : Nat → Int} {l : List Nat} (h : NumIn N w a n c M) (hg : Ch w w' l) (hl : ∀ b o, a = some ⟨b, o, none⟩ → b ∉ l) : NumIn N w' a n c M :=
  ⟨h.le, h.max, by
    rcases h.lie with h0 | ⟨b, off, e, hb, hi⟩
    · exact .inl h0
    · exact .inr ⟨b, off, e, hb, fun i hi' => hg.cell (hi i hi') (hl b off e)⟩⟩
theorem cells_new {w : World} (c : Array Value) (t : TypeId) {b : Nat} (hb : b = w.heap.size) (j : Nat) : (w.alloc (.cells c t)).cell? ⟨b, j, none⟩ = c[j]? := by subst hb; exact World.cell?_alloc_new _ _ _ _
theorem fzs_new {w : World} (c : Array Value) (t : TypeId) {b : Nat} (hb : b = w.heap.size) (j : Nat) : (w.alloc (.cells c t)).frozen? ⟨b, j, none⟩ = false := by subst hb; simp
set_option maxRecDepth 100000 in
set_option maxHeartbeats 4000000 in
theorem copyNums_any {N : Nat} {w : World} {a : Option Addr} {n c : Nat} {M : Nat → Int} (h : NumIn N w a n c M) (hz : a = none → n = 0 ∧ c = 0) (hf : n * 8 ≤ reachBytes) :
    Calls Try.prog 8 #[.slice a n c] w fun e w' => ∃ a' c', e = .returned (.slice a' n c') ∧ NumIn w'.heap.size w' a' n c' M ∧ (a' = none → n = 0 ∧ c' = 0) ∧ (∀ b o, a' = some ⟨b, o, none⟩ → w.heap.size ≤ b ∧ IntB w' b) ∧ w.grownBy w' none := by
  obtain ⟨i, hi, hz0, hz1, hz2⟩ := info_parts info_int
  have hf' : n * 8 ≤ 140737488351232 := hf
  have hle := h.le
  have hmx := h.max
  have hmx' := h.max
  unfold maxLen at hmx
  cases a with
  | none =>
    obtain ⟨rfl, rfl⟩ := hz rfl
    go_enter Try.func8, Try.ntmps8
    go_wp2_with (at_builtin; refine wpList_append_own_none rfl _ _ 24 rfl w.heap.size 3 i 1 Try.underlying24 hi (.slice none 0 0) 0 [] rfl (World.ownsRow_nil _ _ _ _) rfl ?_)
    go_ret
    exact ⟨none, 0, rfl, ⟨Nat.le_refl _, Nat.zero_le _, .inl rfl⟩, fun _ => by simp, (fun b o e => by cases e), World.grownBy.refl _ _⟩
  | some ad =>
    have HL : Hid (∀ j u, (((List.range n).map M).map (Value.int .i64))[j]? = some u → w.cell? (ad.add j) = some u) := by
      intro j u hj
      have hjn : j < n := by have := (List.getElem?_eq_some_iff.1 hj).1; simpa using this
      obtain ⟨b, off, e, _, hc⟩ := h.at hjn
      injection e with e
      subst e
      rw [addr_add, hc, ← hj]
      simp [hjn]
    have hl : (((List.range n).map M).map (Value.int .i64)).length = n * 1 := by simp
    have h1c : ∀ u ∈ ((List.range n).map M).map (Value.int .i64), u.oneCell' = true := by intro y hy; obtain ⟨z, _, rfl⟩ := List.mem_map.mp hy; rfl
    obtain ⟨Z, hZ⟩ : ∃ Z, Z = ((List.range n).map M).map (Value.int .i64) := ⟨_, rfl⟩
    rw [← hZ] at HL hl h1c
    have HZ : Hid (Z = ((List.range n).map M).map (Value.int .i64)) := hZ
    clear h hZ hz
    go_enter Try.func8, Try.ntmps8
    go_wp2_with (at_builtin; refine wpList_append_own _ rfl _ _ 24 rfl w.heap.size 3 i (.int .i64 0) 1 8 Try.underlying24 hi hz0 hz1 hz2 rfl (by decide) (.slice none 0 0) 0 [] rfl (World.ownsRow_nil _ _ _ _) ad n c Z rfl hl HL.out h1c (by unfold maxLen; omega) (by omega) (Nat.le_refl _) ?_; intro v' w2 ho2 hg2 hv2)
    go_ret
    have ho : OwnZ w2 w.heap.size v' ((List.range n).map M) := by
      unfold OwnZ
      rw [List.length_map, List.length_range, ← HZ.out]
      simpa using ho2
    obtain ⟨a', c', rfl, hN⟩ := ho.numIn (M := M) (n := n) (by simp) (fun i hi => by simp [List.getD_eq_getElem?_getD, hi])
    refine ⟨a', c', rfl, hN, fun e => ?_, fun b o e => ?_, hg2⟩
    rotate_left
    · subst e
      rcases ho.2 with ⟨e, h0⟩ | ⟨T5, c5, cur, e, hb5, hg5, _⟩
      · cases e
      · injection e with e1 e2 e3
        injection e1 with e1
        injection e1 with e1
        subst e1
        exact ⟨hb5, cur, hg5⟩
    subst e
    rcases ho.2 with ⟨e, h0⟩ | ⟨T5, c5, cur, e, _⟩
    · injection e with e1 e2 e3
      exact ⟨by simpa using h0, e3⟩
    · cases e
theorem TysIn.grow {N : Nat} {w w' : World} {a : Option Addr} {n c : Nat} {T : Nat → Ty.TyV} (h : TysIn N w a n c T) (hg : w.grownBy w' none) : TysIn N w' a n c T := h.ch (l := []) (Ch.of hg) (by simp)
set_option maxRecDepth 100000 in
set_option maxHeartbeats 4000000 in
theorem copyType_any {N : Nat} {w : World} {x : Ty.TyV} {fa : Option Addr} {fc : Nat} (h : NumIn N w fa x.nf fc x.F) (hz : fa = none → x.nf = 0 ∧ fc = 0) (hf : x.nf * 8 ≤ reachBytes) :
    Calls Try.prog 18 #[.agg #[.int .i64 x.kind, .int .i64 x.elem, .int .i64 x.n, .slice fa x.nf fc]] w fun e w' => ∃ a' c', e = .returned (.agg #[.int .i64 x.kind, .int .i64 x.elem, .int .i64 x.n, .slice a' x.nf c']) ∧ NumIn w'.heap.size w' a' x.nf c' x.F ∧ (a' = none → x.nf = 0 ∧ c' = 0) ∧ (∀ b o, a' = some ⟨b, o, none⟩ → w.heap.size ≤ b ∧ IntB w' b) ∧ w.grownBy w' none := by
  obtain ⟨W3, hW3⟩ : ∃ W3, W3 = ((w.alloc (.cells #[.int .i64 x.kind, .int .i64 x.elem, .int .i64 x.n, .slice fa x.nf fc] 50)).alloc (.cells #[.int .i64 0, .int .i64 0, .int .i64 0, .slice none 0 0] 50)).alloc (.cells #[.int .i64 x.kind, .int .i64 x.elem, .int .i64 x.n, .slice fa x.nf fc] 50) := ⟨_, rfl⟩
  have hg3 : w.grownBy W3 none := by rw [hW3]; exact ga (ga (World.grownBy_alloc _ _ _) _) _
  have hs3 : W3.heap.size = w.heap.size + 3 := by rw [hW3]; simp
  have hC := copyNums_any (h.grow hg3) hz hf
  have HC : Hid (Calls Try.prog 8 #[.slice fa x.nf fc] W3 fun e w' => ∃ a' c', e = .returned (.slice a' x.nf c') ∧ NumIn w'.heap.size w' a' x.nf c' x.F ∧ (a' = none → x.nf = 0 ∧ c' = 0) ∧ (∀ b o, a' = some ⟨b, o, none⟩ → W3.heap.size ≤ b ∧ IntB w' b) ∧ W3.grownBy w' none) := hC
  have HG3 : Hid (w.grownBy W3 none) := hg3
  have HW3 : Hid (W3 = ((w.alloc (.cells #[.int .i64 x.kind, .int .i64 x.elem, .int .i64 x.n, .slice fa x.nf fc] 50)).alloc (.cells #[.int .i64 0, .int .i64 0, .int .i64 0, .slice none 0 0] 50)).alloc (.cells #[.int .i64 x.kind, .int .i64 x.elem, .int .i64 x.n, .slice fa x.nf fc] 50)) := hW3
  have K : Hid ((∀ j v, (#[.int .i64 x.kind, .int .i64 x.elem, .int .i64 x.n, .slice fa x.nf fc] : Array Value)[j]? = some v → W3.cell? ⟨w.heap.size + 2, j, none⟩ = some v) ∧ (∀ q, W3.frozen? ⟨w.heap.size + 2, q, none⟩ = false) ∧ (∀ j v, (#[.int .i64 0, .int .i64 0, .int .i64 0, .slice none 0 0] : Array Value)[j]? = some v → W3.cell? ⟨w.heap.size + 1, j, none⟩ = some v) ∧ (∀ q, W3.frozen? ⟨w.heap.size + 1, q, none⟩ = false)) := by
    rw [hW3]
    refine ⟨fun j v hv => ?_, fun q => ?_, fun j v hv => ?_, fun q => ?_⟩
    · rw [← hv]; exact cells_new _ _ (by simp) _
    · exact fzs_new _ _ (by simp) _
    · exact (Ch.of (l := []) (World.grownBy_alloc _ _ _)).cell ((cells_new _ _ (by simp) _).trans hv) (by simp)
    · exact frozen_ch (l := []) (Ch.of (World.grownBy_alloc _ _ _)) (by simp) (by simp) (fzs_new _ _ (by simp) _)
  clear h hz hf hC hg3 hW3
  go_enter Try.func18, Try.ntmps18
  go_wp2_with (go_at_call 8; rw [← HW3.out]; refine HC.out.mono ?_; rintro e w4 ⟨a', c', rfl, hN4, hz4, hb4, hg4⟩; have HN4 : Hid (NumIn w4.heap.size w4 a' x.nf c' x.F ∧ (a' = none → x.nf = 0 ∧ c' = 0) ∧ (∀ b o, a' = some ⟨b, o, none⟩ → W3.heap.size ≤ b ∧ IntB w4 b)) := ⟨hN4, hz4, hb4⟩; have HG4 : Hid (W3.grownBy w4 none) := hg4; have k0 := (Ch.of (l := []) hg4).cell (K.out.1 0 _ rfl) (by simp); have k1 := (Ch.of (l := []) hg4).cell (K.out.1 1 _ rfl) (by simp); have k2 := (Ch.of (l := []) hg4).cell (K.out.1 2 _ rfl) (by simp); have k3 := (Ch.of (l := []) hg4).cell (K.out.1 3 _ rfl) (by simp); have z3 := frozen_ch (l := []) (Ch.of hg4) (by omega) (by simp) (K.out.2.1 3); have r0 := (Ch.of (l := []) hg4).cell (K.out.2.2.1 0 _ rfl) (by simp); have r1 := (Ch.of (l := []) hg4).cell (K.out.2.2.1 1 _ rfl) (by simp); have r2 := (Ch.of (l := []) hg4).cell (K.out.2.2.1 2 _ rfl) (by simp); have r3 := (Ch.of (l := []) hg4).cell (K.out.2.2.1 3 _ rfl) (by simp); have y0 := frozen_ch (l := []) (Ch.of hg4) (by omega) (by simp) (K.out.2.2.2 0); have y1 := frozen_ch (l := []) (Ch.of hg4) (by omega) (by simp) (K.out.2.2.2 1); have y2 := frozen_ch (l := []) (Ch.of hg4) (by omega) (by simp) (K.out.2.2.2 2); have y3 := frozen_ch (l := []) (Ch.of hg4) (by omega) (by simp) (K.out.2.2.2 3); clear hN4 hz4 hb4 hg4)
  refine bodyPost_ret (by simp [results, Try.results18, go_sem, r0, r1, r2, r3]; try rfl) rfl ?_
  have hs4 := HG4.out.size
  have g := grown_trans HG3.out HG4.out
  generalize hw9 : ((((w4.setCell _ _).setCell _ _).setCell _ _).setCell _ _).setCell _ _ = w9
  have c9 : Ch w4 w9 [w.heap.size + 1, w.heap.size + 2] := by
    rw [← hw9]
    exact ((((Ch.one (grown_set _ _ _ _) (by simp)).trans (Ch.one (grown_set _ _ _ _) (by simp))).trans (Ch.one (grown_set _ _ _ _) (by simp))).trans (Ch.one (grown_set _ _ _ _) (by simp))).trans (Ch.one (grown_set _ _ _ _) (by simp))
  refine ⟨a', c', rfl, ?_, HN4.out.2.1, fun b o e => ⟨by have := (HN4.out.2.2 b o e).1; omega, (HN4.out.2.2 b o e).2.ch c9 (by have := (HN4.out.2.2 b o e).1; simp; omega)⟩, ?_⟩
  · exact (HN4.out.1.ch2 c9 (fun b o e => by have := (HN4.out.2.2 b o e).1; simp; omega)).up c9.size
  · exact ((Ch.of g).trans c9).nil (by simp)
/-- an entry and where its fields lie -/
structure En where
  x : Ty.TyV
  fa : Option Addr
  fc : Nat
def cells4 (e : En) : List Value := [.int .i64 e.x.kind, .int .i64 e.x.elem, .int .i64 e.x.n, .slice e.fa e.x.nf e.fc]
def OwnT (w : World) (base : Nat) (v : Value) (l : List En) : Prop := w.ownsRow base 50 4 v l.length (l.flatMap cells4)
theorem info_ty : (Try.prog.info? 50).map (fun i => (i.zero, i.size, i.bytes)) = some (some (.agg #[.int .i64 0, .int .i64 0, .int .i64 0, .slice none 0 0]), 4, 48) := by kernel_rfl
theorem flat4_at : ∀ (l : List En) (i k : Nat) (hi : i < l.length), k < 4 → (l.flatMap cells4)[i * 4 + k]? = (cells4 l[i])[k]?
  | [], i, k, hi, _ => by simp at hi
  | v :: l, 0, k, _, hk => by
    rw [List.flatMap_cons, List.getElem?_append_left (by simp [cells4]; omega)]
    simp
  | v :: l, i + 1, k, hi, hk => by
    have h4 : (cells4 v).length = 4 := rfl
    rw [List.flatMap_cons, List.getElem?_append_right (by rw [h4]; omega), h4, show (i + 1) * 4 + k - 4 = i * 4 + k by omega]
    exact flat4_at l i k (by simpa using hi) hk
theorem OwnT.grow {w w' : World} {base : Nat} {v : Value} {l : List En} (h : OwnT w base v l) (hg : w.grownBy w' none) : OwnT w' base v l := World.ownsRow.kept h hg (Classical.em _)
theorem OwnT.base {w : World} {base : Nat} {v : Value} {l : List En} (h : OwnT w base v l) : ∀ k, v.ownBlock = some k → base ≤ k := fun k hk => (World.ownsRow.lt h k hk).1
/-- one entry more -/
theorem wp_appT {ops : Array Oper} {rest : List Oper} {o : Oper} {a : Act} {Q : Exit → Act → World → Prop} {W : World} (hgd : o.guard = none) (s x : Operand)
    (ho : o.op = .call { callee := .builtin .append, args := #[s, x], argTypes := #[23, 23] }) (base : Nat) (v : Value) (l : List En) (u : En) (hs : a.eval s = v) (hown : OwnT W base v l)
    (hx : a.eval x = .slice (some ⟨W.heap.size, 0, none⟩) 1 1) (hl : l.length ≤ 100000) (hb : base ≤ W.heap.size)
    (h : ∀ v' w', OwnT w' base v' (l ++ [u]) → W.grownBy w' v.ownBlock → wpList Try.prog ops Q rest (a.put o.dst v') w') : wpList Try.prog ops Q (o :: rest) a (W.alloc (Obj.cells #[.int .i64 u.x.kind, .int .i64 u.x.elem, .int .i64 u.x.n, .slice u.fa u.x.nf u.fc] 50)) := by
  obtain ⟨i, hi, hz0, hz1, hz2⟩ := info_parts info_ty
  refine wpList_append_own _ hgd s x 23 ho base 50 i _ 4 48 Try.underlying23 hi hz0 hz1 hz2 rfl (by decide) v l.length (l.flatMap cells4) hs (World.ownsRow.alloc hown _) ⟨W.heap.size, 0, none⟩ 1 1 (cells4 u) hx rfl
    (by intro j y hj; rw [addr_add, Nat.zero_add, cells_new _ _ rfl]; rw [← hj]; simp [cells4]) (by intro y hy; simp [cells4] at hy; rcases hy with rfl | rfl | rfl | rfl <;> rfl) (by unfold maxLen; omega) (by omega) (by simp; omega) ?_
  intro v' w2 ho2 hg2 _
  refine h v' w2 ?_ (grown_trans (grown_noneR _ (World.grownBy_alloc _ _ _)) hg2)
  unfold OwnT
  rw [List.length_append, List.flatMap_append]
  simpa using ho2
theorem OwnT.apart {w : World} {base b : Nat} {v : Value} {l : List En} (h : OwnT w base v l) (hb : IntB w b) : v.ownBlock ≠ some b := by
  intro e
  rcases h.2 with ⟨rfl, _⟩ | ⟨g, c, cur, rfl, _, hg, _⟩
  · cases e
  · simp [Value.ownBlock] at e
    subst e
    obtain ⟨cur', h'⟩ := hb
    rw [hg] at h'
    simp at h'
/-- a copy of a table -/
structure Cop (w wr : World) (T : Nat → Ty.TyV) (k : Nat) (v : Value) (l : List En) : Prop where
  own : OwnT wr w.heap.size v l
  len : l.length = k
  ent : ∀ i (hi : i < l.length), l[i].x = T i ∧ NumIn wr.heap.size wr l[i].fa (T i).nf l[i].fc (T i).F ∧ (l[i].fa = none → (T i).nf = 0 ∧ l[i].fc = 0) ∧ ∀ b o, l[i].fa = some ⟨b, o, none⟩ → IntB wr b
  gr : w.grownBy wr none
theorem Cop.tys {w wr : World} {T : Nat → Ty.TyV} {k : Nat} {v : Value} {l : List En} (h : Cop w wr T k v l) : ∃ a c, v = .slice a k c ∧ TysIn wr.heap.size wr a k c T := by
  have hl := h.len
  subst hl
  rcases h.own.2 with ⟨rfl, h0⟩ | ⟨g, c, cur, rfl, hb, hg, hc, hcm, _⟩
  · exact ⟨none, 0, by rw [h0], by omega, Nat.zero_le _, .inl h0⟩
  · refine ⟨_, c, rfl, hc, hcm, .inr ⟨g, 0, rfl, (World.ownsRow.lt h.own g rfl).2, fun i hi => ?_⟩⟩
    have e : ∀ q, q < 4 → wr.cell? ⟨g, i * 4 + q, none⟩ = (cells4 l[i])[q]? := fun q hq => (World.ownsRow.cellAt h.own (i * 4 + q) (by omega)).trans (flat4_at l i q hi hq)
    obtain ⟨e1, e2, e3, _⟩ := h.ent i hi
    rw [Nat.zero_add]
    refine ⟨l[i].fa, l[i].fc, ?_, ?_, ?_, ?_, e2, e3⟩
    · rw [← e1]; exact e 0 (by decide)
    · rw [← e1]; exact e 1 (by decide)
    · rw [← e1]; exact e 2 (by decide)
    · rw [← e1]; exact e 3 (by decide)
set_option maxRecDepth 100000 in
set_option maxHeartbeats 4000000 in
theorem copyTypes_any {N : Nat} {w : World} {a : Option Addr} {n c : Nat} {T : Nat → Ty.TyV} (h : TysIn N w a n c T) (hN : N ≤ w.heap.size) (hn : n ≤ 2000) (hf : ∀ i, i < n → (T i).nf * 8 ≤ reachBytes) :
    Calls Try.prog 6 #[.slice a n c] w fun e w' => ∃ a' c', e = .returned (.slice a' n c') ∧ TysIn w'.heap.size w' a' n c' T ∧ w.grownBy w' none := by
  have hle := h.le
  have hmx := h.max
  unfold maxLen at hmx
  have hn' : (n : Int) ≤ 2000 := by omega
  have HT : Hid (TysIn N w a n c T) := h
  have HF : Hid (∀ i, i < n → (T i).nf * 8 ≤ reachBytes) := hf
  clear h hf
  go_enter Try.func6, Try.ntmps6
  go_wp2_with fail
  go_loopw [3, 4] (fun v ix wr => ∃ (k : Nat) (l : List En), ix = .int .i64 k ∧ k ≤ n ∧ Cop w wr T k v l) (fun _ ix _ => n - (intOf ix).toNat)
  case atStart => exact ⟨0, [], rfl, Nat.zero_le _, World.ownsRow_nil _ _ _ _, rfl, (fun i hi => by simp at hi), World.grownBy.refl _ _⟩
  case round =>
    obtain ⟨k, l, rfl, hk, hc⟩ := hrel
    have HC : Hid (Cop w wr T k _ l) := hc
    by_cases hkn : k < n
    · have hkn' : (k : Int) < n := by omega
      obtain ⟨b, off, fa, fc, rfl, hb, hty⟩ := (HT.out.grow hc.gr).at hkn
      have HY : Hid (∃ av cv, u3 = .slice av k cv) := by obtain ⟨a1, c1, e, _⟩ := hc.tys; exact ⟨a1, c1, e⟩
      have hcp := copyType_any hty.f hty.nz (HF.out k hkn)
      have HCp : Hid (Calls Try.prog 18 #[.agg #[.int .i64 (T k).kind, .int .i64 (T k).elem, .int .i64 (T k).n, .slice fa (T k).nf fc]] wr fun e w' => ∃ a' c', e = .returned (.agg #[.int .i64 (T k).kind, .int .i64 (T k).elem, .int .i64 (T k).n, .slice a' (T k).nf c']) ∧ NumIn w'.heap.size w' a' (T k).nf c' (T k).F ∧ (a' = none → (T k).nf = 0 ∧ c' = 0) ∧ (∀ b o, a' = some ⟨b, o, none⟩ → wr.heap.size ≤ b ∧ IntB w' b) ∧ wr.grownBy w' none) := hcp
      have c0 := hty.c0
      have c1 := hty.c1
      have c2 := hty.c2
      have c3 := hty.c3
      have hlk := hc.len
      have hsz := hc.gr.size
      clear hc hcp hty
      obtain ⟨x, hx⟩ : ∃ x, x = T k := ⟨_, rfl⟩
      have HX : Hid (x = T k) := hx
      rw [← hx] at c0 c1 c2 c3 HCp
      clear hx
      go_wp2_with (first
        | (go_at_call 18; refine HCp.out.mono ?_; rintro e w4 ⟨a', c', rfl, hN4, hz4, hb4, hg4⟩; have HN4 : Hid (NumIn w4.heap.size w4 a' x.nf c' x.F ∧ (a' = none → x.nf = 0 ∧ c' = 0) ∧ (∀ b o, a' = some ⟨b, o, none⟩ → wr.heap.size ≤ b ∧ IntB w4 b)) := ⟨hN4, hz4, hb4⟩; have HG4 : Hid (wr.grownBy w4 none) := hg4; have hsz4 := hg4.size; clear hN4 hz4 hb4 hg4)
        | (at_builtin; refine wp_appT rfl _ _ rfl w.heap.size u3 l ⟨x, a', c'⟩ rfl (HC.out.own.grow HG4.out) rfl (by omega) (by omega) ?_; intro v6 w6 ho6 hg6))
      go_roundw
      case rel =>
        have o4 := HC.out.own.grow HG4.out
        have hch : Ch w4 w6 u3.ownBlock.toList := grown_ch hg6
        have hap : ∀ b, IntB w4 b → b ∉ u3.ownBlock.toList := fun b hb hm => o4.apart hb (by simpa using hm)
        refine ⟨k + 1, l ++ [⟨x, a', c'⟩], by go_num, by omega, ho6, by simp [hlk], fun i hi => ?_, ?_⟩
        · by_cases hil : i < l.length
          · rw [List.getElem_append_left hil]
            obtain ⟨e1, e2, e3, e4⟩ := HC.out.ent i hil
            have e4' : ∀ b o, l[i].fa = some ⟨b, o, none⟩ → IntB w4 b := fun b o e => (e4 b o e).ch (l := []) (Ch.of HG4.out) (by simp)
            exact ⟨e1, ((e2.grow HG4.out).ch2 hch (fun b o e => hap b (e4' b o e))).up (by have := hch.size; omega), e3, fun b o e => (e4' b o e).ch hch (hap b (e4' b o e))⟩
          · have hik : i = l.length := by simp at hi; omega
            subst hik
            have hT : T l.length = x := by rw [hlk]; exact HX.out.symm
            rw [List.getElem_append_right (Nat.le_refl _)]
            simp only [Nat.sub_self, List.getElem_cons_zero]
            rw [hT]
            exact ⟨rfl, (HN4.out.1.ch2 hch (fun b o e => hap b (HN4.out.2.2 b o e).2)).up hch.size, HN4.out.2.1, fun b o e => (HN4.out.2.2 b o e).2.ch hch (hap b (HN4.out.2.2 b o e).2)⟩
        · have := (Ch.of (l := u3.ownBlock.toList) (grown_trans HC.out.gr HG4.out)).trans hch
          exact this.nil (fun q hq => HC.out.own.base q (by simpa using hq))
      case measure => simp [intOf]; omega
    · obtain rfl : k = n := by omega
      obtain ⟨a1, c1, rfl, hT1⟩ := hc.tys
      clear hc
      go_wp2
      go_ret
      exact ⟨a1, c1, rfl, hT1, HC.out.gr⟩
/-- what Heavy tells -/
def HvR (n : Nat) (e : Ending) : Prop := ∃ b, e = .returned (.bool b) ∧ (b = false → n ≤ 2000)
set_option maxRecDepth 100000 in
set_option maxHeartbeats 4000000 in
theorem heavy7_any {N : Nat} {w : World} {a : Option Addr} {n c : Nat} {T : Nat → Ty.TyV} (h : TysIn N w a n c T) (hz : n * 48 ≤ reachBytes) (hf : ∀ i, i < n → (T i).nf * 8 ≤ reachBytes) :
    Calls Try.prog 5 #[.slice a n c] w fun e w' => HvR n e ∧ w' = w := by
  have hle := h.le
  have hmx := h.max
  unfold maxLen at hmx
  have hz' : n * 48 ≤ 140737488351232 := hz
  have hn' : (n : Int) ≤ 140737488351232 := by omega
  have HT : Hid (TysIn N w a n c T) := h
  have HF : Hid (∀ i, i < n → ((T i).nf : Int) ≤ 140737488351232) := fun i hi => by have : (T i).nf * 8 ≤ 140737488351232 := hf i hi; omega
  clear h hf hz hz'
  go_enter Try.func5, Try.ntmps5
  go_wp2_with fail
  go_loopw [3, 4] (fun z ix wr => ∃ (k : Nat) (y : Int), ix = .int .i64 k ∧ z = .int .i64 y ∧ k ≤ n ∧ (n : Int) ≤ y ∧ y ≤ 4611686018427387904 ∧ wr = w) (fun _ ix _ => n - (intOf ix).toNat)
  case atStart => exact ⟨0, n, rfl, rfl, Nat.zero_le _, Int.le_refl _, by omega, rfl⟩
  case round =>
    obtain ⟨k, y, rfl, rfl, hk, hy1, hy2, rfl⟩ := hrel
    by_cases hkn : k < n
    · have hkn' : (k : Int) < n := by omega
      by_cases hy : y < 2000
      · obtain ⟨b, off, fa, fc, rfl, hb, hty⟩ := HT.out.at hkn
        have hfk := HF.out k hkn
        have c3 := hty.c3
        clear hty
        generalize T k = x at *
        go_wp2
        go_roundw
        case rel => exact ⟨k + 1, y + x.nf, by go_num, by go_num, by omega, by omega, by omega, by first | rfl | trivial⟩
        case measure => simp [intOf]; omega
      · go_wp2
        go_ret
        refine ⟨⟨_, rfl, fun e => ?_⟩, rfl⟩
        simp at e
        omega
    · obtain rfl : k = n := by omega
      go_wp2
      go_ret
      refine ⟨⟨_, rfl, fun e => ?_⟩, rfl⟩
      simp at e
      omega
/-- the table that wakes -/
def Ty.wT : Nat → Ty.TyV
  | 0 => ⟨6, 0, 0, 0, fun _ => 0⟩
  | 1 => ⟨5, 0, 0, 0, fun _ => 0⟩
  | _ => ⟨13, 0, 0, 3, fun k => if k = 1 then 1 else 0⟩
namespace Ty
end Ty
namespace Ty
/-- words lie one behind the other from s on, each as it is aligned, up to d -/
inductive Row : Int → Int → List (Int × Int) → Prop
  | nil {s d : Int} (h : s ≤ d) : Row s d []
  | cons {s d k o : Int} {l : List (Int × Int)} (h1 : 1 ≤ k) (h2 : k ≤ 11) (h3 : s ≤ o) (h4 : o % Wd.by' k = 0) (h : Row (o + Wd.by' k) d l) : Row s d ((k, o) :: l)
theorem Row.le {s d : Int} {l : List (Int × Int)} (h : Row s d l) : s ≤ d := by
  induction h with
  | nil h => exact h
  | cons h1 h2 h3 h4 h ih => have := (by_al h1 h2).pos; omega
theorem Row.low {s s' d : Int} {l : List (Int × Int)} (h : Row s d l) (hs : s' ≤ s) : Row s' d l := by
  cases h with
  | nil h => exact .nil (by omega)
  | cons h1 h2 h3 h4 h => exact .cons h1 h2 (by omega) h4 h
theorem Row.high {s d d' : Int} {l : List (Int × Int)} (h : Row s d l) (hd : d ≤ d') : Row s d' l := by
  induction h with
  | nil h => exact .nil (by omega)
  | cons h1 h2 h3 h4 h ih => exact .cons h1 h2 h3 h4 (ih hd)
theorem Row.app {s m d : Int} {l l' : List (Int × Int)} (h : Row s m l) (h' : Row m d l') : Row s d (l ++ l') := by
  induction h with
  | nil h => exact h'.low h
  | cons h1 h2 h3 h4 h ih => exact .cons h1 h2 h3 h4 (ih h')
/-- an entry's words lie within it, aligned no more than it -/
def Al8 (a : Int) (l : List (Int × Int)) : Prop := ∀ p ∈ l, 1 ≤ p.1 ∧ p.1 ≤ 11 ∧ Wd.by' p.1 ≤ a
theorem mod_add {d o b a : Int} (ha : Al a) (hb : Al b) (hba : b ≤ a) (hd : d % a = 0) (ho : o % b = 0) : (d + o) % b = 0 := by
  rcases ha with rfl | rfl | rfl | rfl <;> rcases hb with rfl | rfl | rfl | rfl <;> omega
theorem Row.sh {s d e a : Int} {l : List (Int × Int)} (h : Row s d l) (ha : Al a) (h8 : Al8 a l) (he : e % a = 0) : Row (e + s) (e + d) (Ty.sh e l) := by
  induction h with
  | nil h => exact .nil (by omega)
  | @cons s d k o l h1 h2 h3 h4 h ih =>
    have h5 := h8 (k, o) (by simp)
    refine .cons h1 h2 (by omega) (mod_add ha (by_al h1 h2) h5.2.2 he h4) ?_
    have := ih (fun p hp => h8 p (by simp [hp]))
    rwa [← Int.add_assoc] at this
theorem cat_row {x : TyV} {L : Nat → Li} {V : Nat → List (Int × Int)} : ∀ {k : Nat}, (∀ j, j < k → Good (fl x L j) ∧ (fl x L j).size ≤ 65536 ∧ Row 0 (fl x L j).size (V (x.F j).toNat) ∧ Al8 (fl x L j).align (V (x.F j).toNat)) → Row 0 (en x L k) (cat x L V k) ∧ Al8 (al x L k) (cat x L V k)
  | 0, _ => ⟨.nil (Int.le_refl _), fun p hp => by cases hp⟩
  | k + 1, h => by
    obtain ⟨h1, h2⟩ := cat_row (k := k) fun j hj => h j (by omega)
    obtain ⟨g1, g2, g3, g4⟩ := h k (by omega)
    have hu := up_spec (n := en x L k) g1.al
    refine ⟨?_, fun p hp => ?_⟩
    · rw [cat, en]
      refine h1.app ?_
      have := g3.sh g1.al g4 (e := bg x L k) hu.2.2
      exact this.low (by unfold bg; omega)
    · rw [cat, List.mem_append] at hp
      rw [al]
      rcases hp with hp | hp
      · have := h2 p hp; omega
      · unfold Ty.sh at hp
        obtain ⟨q, hq, rfl⟩ := List.mem_map.1 hp
        have := g4 q hq
        refine ⟨this.1, this.2.1, ?_⟩
        show Wd.by' q.1 ≤ _
        omega
theorem wk_row {T : Nat → TyV} {n : Nat} : ∀ {i : Nat}, Fine T n (i + 1) → Row 0 (lie T i).size (wk T i) ∧ Al8 (lie T i).align (wk T i) := by
  intro i
  induction i using Nat.strongRecOn with
  | ind i ih =>
    intro h
    have ho := (h i (by omega)).1
    have hgi := h.good i (by omega)
    have e1 := wk_eq ho
    have e2 := lie_eq ho
    rcases ok_cases ho with ⟨hk, _⟩ | ⟨hk, _, _, h16, hf⟩ | ⟨hk, _⟩ | ⟨i1, i2, _⟩
    · have ew : wk T i = [] := by rw [e1]; unfold wkOf; rw [if_pos hk]
      rw [ew]
      have := hgi.1.w0
      have := hgi.1.ws
      exact ⟨.nil (by omega), fun p hp => by cases hp⟩
    · have h12 : ¬ (T i).kind = 12 := by omega
      have ew : wk T i = cat (T i) (lie T) (wk T) (T i).nf := by rw [e1]; unfold wkOf; rw [if_neg h12, if_pos hk]
      have es : (lie T i).size = up (en (T i) (lie T) (T i).nf) (al (T i) (lie T) (T i).nf) ∧ (lie T i).align = al (T i) (lie T) (T i).nf := by
        rw [e2]; unfold lieOf; rw [if_neg h12, if_pos hk]; exact ⟨rfl, rfl⟩
      have hg : ∀ j, j < (T i).nf → Good (fl (T i) (lie T) j) ∧ (fl (T i) (lie T) j).size ≤ 65536 ∧ Row 0 (fl (T i) (lie T) j).size (wk T ((T i).F j).toNat) ∧ Al8 (fl (T i) (lie T) j).align (wk T ((T i).F j).toNat) := fun j hj => by
        have hfj := hf j hj
        have h1 := h.good ((T i).F j).toNat (by omega)
        have h2 := ih ((T i).F j).toNat (by omega) (h.mono (by omega))
        exact ⟨h1.1, h1.2, h2.1, h2.2⟩
      obtain ⟨c1, c2⟩ := cat_row hg
      rw [ew, es.1, es.2]
      exact ⟨c1.high (up_spec (al_al fun j hj => (hg j hj).1)).1, c2⟩
    · have h12 : ¬ (T i).kind = 12 := by omega
      have h13 : ¬ (T i).kind = 13 := by omega
      have ew : wk T i = [(11, 0), (5, 8)] := by rw [e1]; unfold wkOf; rw [if_neg h12, if_neg h13, if_pos hk]
      have el : lie T i = ⟨16, 8, 2, false⟩ := by rw [e2]; unfold lieOf; rw [if_neg h12, if_neg h13, if_pos hk]
      rw [ew, el]
      refine ⟨.cons (by decide) (by decide) (by decide) (by decide) (.cons (by decide) (by decide) (by decide) (by decide) (.nil (by decide))), fun p hp => ?_⟩
      simp at hp
      rcases hp with rfl | rfl <;> exact ⟨by decide, by decide, by decide⟩
    · have h12 : ¬ (T i).kind = 12 := by omega
      have h13 : ¬ (T i).kind = 13 := by omega
      have h14 : ¬ ((T i).kind = 14 ∨ (T i).kind = 15) := by omega
      have ew : wk T i = [((T i).kind, 0)] := by rw [e1]; unfold wkOf; rw [if_neg h12, if_neg h13, if_neg h14]
      have el : lie T i = ⟨Wd.by' (T i).kind, Wd.by' (T i).kind, 1, false⟩ := by rw [e2]; unfold lieOf; rw [if_neg h12, if_neg h13, if_neg h14]
      rw [ew, el]
      refine ⟨.cons i1 i2 (Int.le_refl _) (by simp) (.nil (by show 0 + _ ≤ Wd.by' _; omega)), fun p hp => ?_⟩
      simp at hp
      subst hp
      exact ⟨i1, i2, Int.le_refl _⟩
end Ty
theorem grown_below {w w' : World} (g : w.grownBy w' none) : Below w.heap.size w w' := (Below.refl _ _).grown g (Nat.le_refl _) (by simp)
theorem TbAt.grow {w w' : World} {b o : Nat} {v : TbV} (h : TbAt w b o v) (hg : w.grownBy w' none) : w'.cell? ⟨b, o, none⟩ = some (.slice v.ta v.tn v.tc) ∧ w'.cell? ⟨b, o + 1, none⟩ = some (.slice v.ia v.im v.ic) ∧ w'.cell? ⟨b, o + 2, none⟩ = some (.slice v.fa v.fm v.fc) ∧ TysIn w.heap.size w' v.ta v.tn v.tc v.T ∧ NumIn w.heap.size w' v.ia v.im v.ic v.I ∧ NumIn w.heap.size w' v.fa v.fm v.fc v.F :=
  ⟨(Ch.of (l := []) hg).cell h.c0 (by simp), (Ch.of (l := []) hg).cell h.c1 (by simp), (Ch.of (l := []) hg).cell h.c2 (by simp), h.t.grow hg, h.i.grow hg, h.f.grow hg⟩
end Go.Proofs.Ytdfjaedafampaaa
