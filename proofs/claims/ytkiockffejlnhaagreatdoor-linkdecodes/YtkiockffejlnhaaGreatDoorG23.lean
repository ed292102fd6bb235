/- Contracts and plain facts that the walks share, text by text: OpenG, OpenR, CpNum, LdOpen, LdCopy. -/
import Derived.Test.YtkiockffejlnhaaGreatDoorG16
import Derived.Test.YtkiockffejlnhaaGreatDoorLkLink
import Derived.Deep.Slices
import Derived.OpenShut
import Derived.SizedLaws
import Derived.Laws.AppendOwnNone
/- Arguments that came in, opened: how large they are. -/
namespace Go.Proofs.YtkiockffejlnhaaGreatDoor
open Go.RowKit
set_option linter.unusedVariables false
def Fits {H : Type} (t : TypeId) (d : DataW H) : Prop := ∀ n ∈ d.weights Tryz.prog t, n ≤ reachBytes
theorem weights_all {H : Type} {e : TypeId} : ∀ {l : List (DataW H)} {d : DataW H}, d ∈ l → ∀ n ∈ d.weights Tryz.prog e, n ∈ DataW.weightsAll Tryz.prog e l
  | d0 :: l, d, hd, n, hn => by
    simp only [DataW.weightsAll, List.mem_append]
    rcases List.mem_cons.1 hd with rfl | h
    · exact .inl hn
    · exact .inr (weights_all h n hn)
theorem Fits.len {H : Type} {t e : TypeId} {l r : List (DataW H)} (ht : Tryz.prog.underlying t = some (.slice e)) (h : Fits t (.slice l r)) (hb : 0 < Tryz.prog.bytesOf e) : l.length ≤ reachBytes := by
  have := h ((l.length + r.length) * Tryz.prog.bytesOf e) (by simp [DataW.weights, ht])
  refine Nat.le_trans ?_ this
  exact Nat.le_trans (Nat.le_add_right _ _) (Nat.le_mul_of_pos_right _ hb)
theorem Fits.elem {H : Type} {t e : TypeId} {l r : List (DataW H)} {d : DataW H} (ht : Tryz.prog.underlying t = some (.slice e)) (h : Fits t (.slice l r)) (hd : d ∈ l) : Fits e d := fun n hn =>
  h n (by simp only [DataW.weights, ht, List.mem_cons, List.mem_append]; exact .inr (.inl (weights_all hd n hn)))
theorem Fits.field {H : Type} {t : TypeId} {fs : Array Field} {xs : List (DataW H × List MemPlace)} {q : List MemPlace} {x y : DataW H × List MemPlace} {i : Nat} {f : Field} (ht : Tryz.prog.underlying t = some (.struct fs)) (h : Fits t x.1) (hx : x = (.agg (xs.map (·.1)), q)) (hf : fs[i]? = some f) (hy : xs[i]? = some y) : Fits f.type y.1 := fun n hn =>
  h n (by
    subst hx
    simp only [DataW.weights, ht]
    exact DataW.weights_mem_each (j := i) (t := f.type) (d := y.1) (by simp [hf]) (by simp [hy]) n hn)
theorem slice_fits {t e : TypeId} {H : Type} {enc : TypeId × Value → H} {W : World} {spare : Nat → Bool} {held : Bool} {fuel : Nat} {cs : List Value} {x : DataW H × List MemPlace}
    (ht : Tryz.prog.underlying t = some (.slice e)) (hb : 0 < Tryz.prog.bytesOf e) (hs : Fits t x.1) (h : DataW.trod enc Tryz.prog W 0 spare held fuel t cs = some x) {a : Option Addr} {len cap : Nat} (hc : cs = [.slice a len cap]) : len ≤ reachBytes := by
  rcases Go.Deep.open_slice ht h with ⟨hcs, _⟩ | ⟨a', len', cap', m, n, D, Pl, hcs, _, hl, hm, hmm, hx, _⟩
  · rw [hc] at hcs
    simp at hcs
    obtain ⟨_, rfl, _⟩ := hcs
    exact Nat.zero_le _
  · rw [hc] at hcs
    simp at hcs
    obtain ⟨_, rfl, _⟩ := hcs
    rw [hx] at hs
    have := Fits.len ht hs hb
    simpa using this
end Go.Proofs.YtkiockffejlnhaaGreatDoor

/- Rows that came in, opened. -/
namespace Go.Proofs.YtkiockffejlnhaaGreatDoor
open Go.RowKit
set_option linter.unusedVariables false
theorem addr_add (b off n : Nat) : (⟨b, off, none⟩ : Addr).add n = ⟨b, off + n, none⟩ := by simp [Addr.add]
structure RowB {α : Type} (c by' : Nat) (Q : World → Nat → Nat → α → Prop) (W : World) (a : Option Addr) (len cap : Nat) (V : Nat → α) : Prop where
  nil : a = none → len = 0 ∧ cap = 0
  le : len ≤ cap
  max : cap ≤ maxLen
  fits : len * by' ≤ reachBytes
  bs : len = 0 ∨ ∃ b off, a = some ⟨b, off, none⟩ ∧ b < W.heap.size ∧ ∀ i, i < len → Q W b (off + i * c) (V i)
theorem Fits.lenB {H : Type} {t e : TypeId} {l r : List (DataW H)} (ht : Tryz.prog.underlying t = some (.slice e)) (h : Fits t (.slice l r)) : l.length * Tryz.prog.bytesOf e ≤ reachBytes := by
  have := h ((l.length + r.length) * Tryz.prog.bytesOf e) (by simp [DataW.weights, ht])
  exact Nat.le_trans (Nat.mul_le_mul_right _ (Nat.le_add_right _ _)) this
theorem open_rowB {α : Type} {t e : TypeId} {c by' : Nat} {H : Type} {enc : TypeId × Value → H} {W : World} {spare : Nat → Bool} {held : Bool} {fuel : Nat} {cs : List Value} {x : DataW H × List MemPlace} (dflt : α) (Q : World → Nat → Nat → α → Prop)
    (ht : Tryz.prog.underlying t = some (.slice e)) (hc : Tryz.prog.cellsOf e = c) (c0 : 0 < c) (hby : Tryz.prog.bytesOf e = by') (hs : Fits t x.1)
    (each : ∀ (n : Nat) (cs : List Value) (b o : Nat) (y : DataW H × List MemPlace), cs.length = c → b < W.heap.size → (∀ j v, cs[j]? = some v → W.cell? ⟨b, o + j, none⟩ = some v) → DataW.trod enc Tryz.prog W 0 spare held n e cs = some y → Fits e y.1 → ∃ z : α, Q W b o z)
    (h : DataW.trod enc Tryz.prog W 0 spare held fuel t cs = some x) : ∃ a len cap V, cs = [.slice a len cap] ∧ RowB c by' Q W a len cap V := by
  rcases Go.Deep.open_slice ht h with ⟨hcs, _⟩ | ⟨a', len, cap, m, n, D, Pl, hcs, hb, hl, hm, hmm, hxx, hx⟩
  · exact ⟨none, 0, 0, fun _ => dflt, hcs, fun _ => ⟨rfl, rfl⟩, Nat.le_refl _, Nat.zero_le _, by simp, .inl rfl⟩
  · have hlm : len ≤ m := by rw [hmm]; split <;> omega
    rw [hxx] at hs
    have hfl : len * by' ≤ reachBytes := by have := Fits.lenB ht hs; rw [hby] at this; simpa using this
    by_cases h0 : len = 0
    · exact ⟨_, _, _, fun _ => dflt, hcs, (fun h => by cases h), hl, hm, hfl, .inl h0⟩
    obtain ⟨b, off, spot⟩ := a'
    have h00 : spot = none ∧ b < W.heap.size := by
      obtain ⟨cs', h1, h2⟩ := hx 0 (by omega)
      rw [hc] at h1
      obtain ⟨_, hlen, hcell⟩ := World.cells?_some h1
      have k0 := hcell 0 (by omega)
      obtain ⟨v, hv⟩ : ∃ v, W.cell? ⟨b, off, spot⟩ = some v := by
        have : W.cell? ⟨b, off, spot⟩ = cs'[0]? := by simpa [Addr.add] using k0
        rw [List.getElem?_eq_getElem (by omega)] at this
        exact ⟨_, this⟩
      exact ⟨World.cell?_spot hv, World.block_lt_of_cell? _ _ hv⟩
    obtain ⟨rfl, hlt⟩ := h00
    have each' : ∀ i, i < len → ∃ z : α, Q W b (off + i * c) z := by
      intro i hi
      obtain ⟨cs', h1, h2⟩ := hx i (by omega)
      rw [hc] at h1
      obtain ⟨_, hlen, hcell⟩ := World.cells?_some h1
      refine each n cs' b (off + i * c) _ hlen hlt (fun j v hv => ?_) h2 (Fits.elem ht hs (List.mem_map.2 ⟨i, List.mem_range.2 hi, rfl⟩))
      have hj : j < c := by rw [← hlen]; exact (List.getElem?_eq_some_iff.1 hv).1
      have k := hcell j hj
      rw [addr_add, addr_add] at k
      exact k.trans hv
    have : ∃ V : Nat → α, ∀ i, i < len → Q W b (off + i * c) (V i) :=
      ⟨fun i => if hi : i < len then Classical.choose (each' i hi) else dflt, fun i hi => by simp only [dif_pos hi]; exact Classical.choose_spec (each' i hi)⟩
    obtain ⟨V, hV⟩ := this
    exact ⟨_, _, _, V, hcs, (fun h => by cases h), hl, hm, hfl, .inr ⟨b, off, rfl, hlt, hV⟩⟩
def NumC (W : World) (b o : Nat) (z : Int) : Prop := W.cell? ⟨b, o, none⟩ = some (.int .i64 z)
theorem open_nums {H : Type} {enc : TypeId × Value → H} {W : World} {spare : Nat → Bool} {held : Bool} {fuel : Nat} {cs : List Value} {x : DataW H × List MemPlace}
    (h : DataW.trod enc Tryz.prog W 0 spare held fuel 30 cs = some x) (hs : Fits 30 x.1) : ∃ a len cap V, cs = [.slice a len cap] ∧ RowB 1 8 NumC W a len cap V := by
  refine open_rowB 0 NumC Tryz.underlying30 (c := 1) (by kernel_rfl) (by decide) (by kernel_rfl) hs (fun n cs b o y hl hb hc hy hz => ?_) h
  obtain ⟨z, e, _, f⟩ := DataW.trod_int Tryz.underlying3 hy
  subst e
  exact ⟨z, hc 0 _ rfl⟩
theorem RowB.num {W : World} {a : Option Addr} {len cap : Nat} {V : Nat → Int} (h : RowB 1 8 NumC W a len cap V) : NumIn W.heap.size W a len cap V :=
  ⟨h.le, h.max, by
    rcases h.bs with h0 | ⟨b, off, e, hl, hq⟩
    · exact .inl h0
    · exact .inr ⟨b, off, e, hl, fun i hi => by have := hq i hi; rw [Nat.mul_one] at this; exact this⟩⟩
end Go.Proofs.YtkiockffejlnhaaGreatDoor

/- Copies of rows of numbers. -/
namespace Go.Proofs.YtkiockffejlnhaaGreatDoor
open Go.RowKit
set_option linter.unusedVariables false
def IntB (w : World) (b : Nat) : Prop := ∃ cur, w.heap[b]? = some (.cells cur 3 (0, 0))
theorem IntB.lt {w : World} {b : Nat} (h : IntB w b) : b < w.heap.size := by obtain ⟨cur, h⟩ := h; exact (Array.getElem?_eq_some_iff.1 h).1
theorem IntB.ch {w w' : World} {b : Nat} {l : List Nat} (h : IntB w b) (hg : Ch w w' l) (hb : b ∉ l) : IntB w' b := by
  have hl := h.lt
  obtain ⟨cur, h⟩ := h
  exact ⟨cur, (hg.block b hl hb).trans h⟩
theorem NumIn.grow {N : Nat} {w w' : World} {a : Option Addr} {n c : Nat} {M : Nat → Int} (h : NumIn N w a n c M) (hg : w.grownBy w' none) : NumIn N w' a n c M := h.ch (l := []) (Ch.of hg) (by simp)
theorem OwnZ.numIn {w : World} {base : Nat} {v : Value} {l : List Int} {M : Nat → Int} {n : Nat} (h : OwnZ w base v l) (hn : l.length = n) (hM : ∀ i, i < n → l.getD i 0 = M i) : ∃ a c, v = .slice a n c ∧ NumIn w.heap.size w a n c M := by
  subst hn
  obtain ⟨a, c, rfl, h1, h2, h3⟩ := h.slice
  refine ⟨a, c, rfl, h1, h2, ?_⟩
  by_cases h0 : l.length = 0
  · exact .inl h0
  · obtain ⟨T, rfl, _, hT⟩ := h3 (by omega)
    exact .inr ⟨T, 0, rfl, hT, fun i hi => by rw [Nat.zero_add, ← hM i hi]; exact h.n.cell hi⟩
theorem NumIn.ch2 {N : Nat} {w w' : World} {a : Option Addr} {n c : Nat} {M : Nat → Int} {l : List Nat} (h : NumIn N w a n c M) (hg : Ch w w' l) (hl : ∀ b o, a = some ⟨b, o, none⟩ → b ∉ l) : NumIn N w' a n c M :=
  ⟨h.le, h.max, by
    rcases h.lie with h0 | ⟨b, off, e, hb, hi⟩
    · exact .inl h0
    · exact .inr ⟨b, off, e, hb, fun i hi' => hg.cell (hi i hi') (hl b off e)⟩⟩
theorem cells_new {w : World} (c : Array Value) (t : TypeId) {b : Nat} (hb : b = w.heap.size) (j : Nat) : (w.alloc (.cells c t)).cell? ⟨b, j, none⟩ = c[j]? := by subst hb; exact World.cell?_alloc_new _ _ _ _
theorem fzs_new {w : World} (c : Array Value) (t : TypeId) {b : Nat} (hb : b = w.heap.size) (j : Nat) : (w.alloc (.cells c t)).frozen? ⟨b, j, none⟩ = false := by subst hb; simp
set_option maxRecDepth 100000 in
set_option maxHeartbeats 4000000 in
theorem copyNums_any {N : Nat} {w : World} {a : Option Addr} {n c : Nat} {M : Nat → Int} (h : NumIn N w a n c M) (hz : a = none → n = 0 ∧ c = 0) (hf : n * 8 ≤ reachBytes) :
    Calls Tryz.prog 37 #[.slice a n c] w fun e w' => ∃ a' c', e = .returned (.slice a' n c') ∧ NumIn w'.heap.size w' a' n c' M ∧ (a' = none → n = 0 ∧ c' = 0) ∧ (∀ b o, a' = some ⟨b, o, none⟩ → w.heap.size ≤ b ∧ IntB w' b) ∧ w.grownBy w' none := by
  obtain ⟨i, hi, hz0, hz1, hz2⟩ := info_parts info_int
  have hf' : n * 8 ≤ 140737488351232 := hf
  have hle := h.le
  have hmx := h.max
  have hmx' := h.max
  unfold maxLen at hmx
  cases a with
  | none =>
    obtain ⟨rfl, rfl⟩ := hz rfl
    go_enter Tryz.func37, Tryz.ntmps37
    go_wp2_with (at_builtin; refine wpList_append_own_none rfl _ _ 30 rfl w.heap.size 3 i 1 Tryz.underlying30 hi (.slice none 0 0) 0 [] rfl (World.ownsRow_nil _ _ _ _) rfl ?_)
    go_ret
    exact ⟨none, 0, rfl, ⟨Nat.le_refl _, Nat.zero_le _, .inl rfl⟩, fun _ => by simp, (fun b o e => by cases e), World.grownBy.refl _ _⟩
  | some ad =>
    have HL : Hid (∀ j u, (((List.range n).map M).map (Value.int .i64))[j]? = some u → w.cell? (ad.add j) = some u) := by
      intro j u hj
      have hjn : j < n := by have := (List.getElem?_eq_some_iff.1 hj).1; simpa using this
      obtain ⟨b, off, e, _, hc⟩ := h.at hjn
      injection e with e
      subst e
      rw [addr_add, hc, ← hj]
      simp [hjn]
    have hl : (((List.range n).map M).map (Value.int .i64)).length = n * 1 := by simp
    have h1c : ∀ u ∈ ((List.range n).map M).map (Value.int .i64), u.oneCell' = true := by intro y hy; obtain ⟨z, _, rfl⟩ := List.mem_map.mp hy; rfl
    obtain ⟨Z, hZ⟩ : ∃ Z, Z = ((List.range n).map M).map (Value.int .i64) := ⟨_, rfl⟩
    rw [← hZ] at HL hl h1c
    have HZ : Hid (Z = ((List.range n).map M).map (Value.int .i64)) := hZ
    clear h hZ hz
    go_enter Tryz.func37, Tryz.ntmps37
    go_wp2_with (at_builtin; refine wpList_append_own _ rfl _ _ 30 rfl w.heap.size 3 i (.int .i64 0) 1 8 Tryz.underlying30 hi hz0 hz1 hz2 rfl (by decide) (.slice none 0 0) 0 [] rfl (World.ownsRow_nil _ _ _ _) ad n c Z rfl hl HL.out h1c (by unfold maxLen; omega) (by omega) (Nat.le_refl _) ?_; intro v' w2 ho2 hg2 hv2)
    go_ret
    have ho : OwnZ w2 w.heap.size v' ((List.range n).map M) := by
      unfold OwnZ
      rw [List.length_map, List.length_range, ← HZ.out]
      simpa using ho2
    obtain ⟨a', c', rfl, hN⟩ := ho.numIn (M := M) (n := n) (by simp) (fun i hi => by simp [List.getD_eq_getElem?_getD, hi])
    refine ⟨a', c', rfl, hN, fun e => ?_, fun b o e => ?_, hg2⟩
    rotate_left
    · subst e
      rcases ho.2 with ⟨e, h0⟩ | ⟨T5, c5, cur, e, hb5, hg5, _⟩
      · cases e
      · injection e with e1 e2 e3
        injection e1 with e1
        injection e1 with e1
        subst e1
        exact ⟨hb5, cur, hg5⟩
    subst e
    rcases ho.2 with ⟨e, h0⟩ | ⟨T5, c5, cur, e, _⟩
    · injection e with e1 e2 e3
      exact ⟨by simpa using h0, e3⟩
    · cases e
end Go.Proofs.YtkiockffejlnhaaGreatDoor

/- Asks of layer 6 that came in, opened. -/
namespace Go.Proofs.YtkiockffejlnhaaGreatDoor
open Go.RowKit
set_option linter.unusedVariables false
theorem frozenK {w w' : World} {l : List Nat} (h : Ch w w' l) {b k : Nat} (hlt : b < w.heap.size) (hb : b ∉ l) (hf : w.frozen? ⟨b, k, none⟩ = false) : w'.frozen? ⟨b, k, none⟩ = false := by
  have := h.block b hlt hb
  simp only [World.frozen?] at hf ⊢
  rw [this]
  exact hf
def InQ (W : World) (b o : Nat) (v : InV) : Prop := InAt W b o v ∧ InRng v
set_option maxRecDepth 100000 in
theorem open_ins {H : Type} {enc : TypeId × Value → H} {W : World} {spare : Nat → Bool} {held : Bool} {fuel : Nat} {cs : List Value} {x : DataW H × List MemPlace}
    (h : DataW.trod enc Tryz.prog W 0 spare held fuel 46 cs = some x) (hs : Fits 46 x.1) : ∃ a len cap V, cs = [.slice a len cap] ∧ RowB 9 72 InQ W a len cap V := by
  have c3 : Tryz.prog.cellsOf 3 = 1 := by kernel_rfl
  have c2 : Tryz.prog.cellsOf 2 = 1 := by kernel_rfl
  refine open_rowB zeroI InQ Tryz.underlying46 (c := 9) (by kernel_rfl) (by decide) (by kernel_rfl) hs (fun n cs b o y hl hb hc hy hz => ?_) h
  obtain ⟨xs, kk, hk, hxy, _, hxl, hf⟩ := DataW.trod_struct Tryz.underlying50 hy
  match xs, hxl, cs, hl with
  | [z0, z1, z2, z3, z4, z5, z6, z7, z8], _, [v0, v1, v2, v3, v4, v5, v6, v7, v8], _ =>
    have g0 := hf 0 _ rfl
    have g1 := hf 1 _ rfl
    have g2 := hf 2 _ rfl
    have g3 := hf 3 _ rfl
    have g4 := hf 4 _ rfl
    have g5 := hf 5 _ rfl
    have g6 := hf 6 _ rfl
    have g7 := hf 7 _ rfl
    have g8 := hf 8 _ rfl
    simp [c3, c2] at g0 g1 g2 g3 g4 g5 g6 g7 g8
    obtain ⟨n0, e0, _, f0⟩ := DataW.trod_int Tryz.underlying3 g0
    obtain ⟨n1, e1, _, f1⟩ := DataW.trod_int Tryz.underlying3 g1
    obtain ⟨n2, e2, _, f2⟩ := DataW.trod_int Tryz.underlying3 g2
    obtain ⟨n3, e3, _, f3⟩ := DataW.trod_int Tryz.underlying3 g3
    obtain ⟨n4, e4, _, f4⟩ := DataW.trod_int Tryz.underlying3 g4
    obtain ⟨n5, e5, _, f5⟩ := DataW.trod_int Tryz.underlying3 g5
    obtain ⟨n6, e6, _, f6⟩ := DataW.trod_int Tryz.underlying3 g6
    obtain ⟨n7, e7, _, f7⟩ := DataW.trod_int Tryz.underlying2 g7
    obtain ⟨n8, e8, _, f8⟩ := DataW.trod_int Tryz.underlying3 g8
    simp at e0 e1 e2 e3 e4 e5 e6 e7 e8
    subst e0 e1 e2 e3 e4 e5 e6 e7 e8
    have f6 := bounds_i64 f6
    have f7 := bounds_i64 f7
    exact ⟨⟨n0, n1, n2, n3, n4, n5, n6, n7, n8⟩, ⟨hc 0 _ rfl, hc 1 _ rfl, hc 2 _ rfl, hc 3 _ rfl, hc 4 _ rfl, hc 5 _ rfl, hc 6 _ rfl, hc 7 _ rfl, hc 8 _ rfl⟩, by constructor <;> dsimp only <;> omega⟩
theorem RowB.ins {W : World} {a : Option Addr} {len cap : Nat} {V : Nat → InV} (h : RowB 9 72 InQ W a len cap V) : InsIn W.heap.size W a len cap V := by
  refine ⟨h.le, h.max, ?_, ?_⟩
  · rcases h.bs with h0 | ⟨b, off, e, hl, hq⟩
    · exact .inl h0
    · exact .inr ⟨b, off, e, hl, fun i hi => (hq i hi).1⟩
  · rcases h.bs with h0 | ⟨b, off, e, hl, hq⟩
    · exact fun i hi => by omega
    · exact fun i hi => (hq i hi).2
structure PcQ (W : World) (b o : Nat) (x : Lk.PcV × PcA) : Prop where
  pa : PcAt W.heap.size W b o x.1 x.2
  iz : x.2.ia = none → x.1.n = 0 ∧ x.2.ic = 0
  mz : x.2.ma = none → x.1.m = 0 ∧ x.2.mc = 0
  ib : x.1.n * 72 ≤ reachBytes
  mb : x.1.m * 8 ≤ reachBytes
set_option maxRecDepth 100000 in
theorem open_pieces {H : Type} {enc : TypeId × Value → H} {W : World} {spare : Nat → Bool} {held : Bool} {fuel : Nat} {cs : List Value} {x : DataW H × List MemPlace}
    (h : DataW.trod enc Tryz.prog W 0 spare held fuel 23 cs = some x) (hs : Fits 23 x.1) : ∃ a len cap V, cs = [.slice a len cap] ∧ RowB 3 56 PcQ W a len cap V := by
  have c1 : Tryz.prog.cellsOf 46 = 1 := by kernel_rfl
  have c2 : Tryz.prog.cellsOf 30 = 1 := by kernel_rfl
  have c3 : Tryz.prog.cellsOf 3 = 1 := by kernel_rfl
  refine open_rowB (⟨0, fun _ => zeroI, 0, fun _ => 0⟩, ⟨none, 0, none, 0, 0⟩) PcQ Tryz.underlying23 (c := 3) (by kernel_rfl) (by decide) (by kernel_rfl) hs (fun n cs b o y hl hb hc hy hz => ?_) h
  obtain ⟨xs, kk, hk, hxy, _, hxl, hf⟩ := DataW.trod_struct Tryz.underlying48 hy
  match xs, hxl, cs, hl with
  | [z0, z1, z2], _, [v0, v1, v2], _ =>
    have g0 := hf 0 _ rfl
    have g1 := hf 1 _ rfl
    have g2 := hf 2 _ rfl
    simp [c1, c2, c3] at g0 g1 g2
    obtain ⟨a0, l0, p0, V0, e0, f0⟩ := open_ins g0 (hz.field Tryz.underlying48 hxy (i := 0) rfl rfl)
    obtain ⟨a1, l1, p1, V1, e1, f1⟩ := open_nums g1 (hz.field Tryz.underlying48 hxy (i := 1) rfl rfl)
    obtain ⟨n2, e2, _⟩ := DataW.trod_int Tryz.underlying3 g2
    simp at e0 e1 e2
    subst e0 e1 e2
    exact ⟨(⟨l0, V0, l1, V1⟩, ⟨a0, p0, a1, p1, n2⟩), ⟨hc 0 _ rfl, hc 1 _ rfl, hc 2 _ rfl, f0.ins, f1.num⟩, f0.nil, f1.nil, f0.fits, f1.fits⟩
structure PcsQ (W : World) (a : Option Addr) (K c : Nat) (V : Nat → Lk.PcV) (A : Nat → PcA) : Prop where
  ps : PcsIn W.heap.size W a K c V A
  sz : K * 56 ≤ reachBytes
  iz : ∀ k, k < K → (A k).ia = none → (V k).n = 0 ∧ (A k).ic = 0
  mz : ∀ k, k < K → (A k).ma = none → (V k).m = 0 ∧ (A k).mc = 0
  ib : ∀ k, k < K → (V k).n * 72 ≤ reachBytes
  mb : ∀ k, k < K → (V k).m * 8 ≤ reachBytes
theorem RowB.pieces {W : World} {a : Option Addr} {len cap : Nat} {X : Nat → Lk.PcV × PcA} (h : RowB 3 56 PcQ W a len cap X) : PcsQ W a len cap (fun k => (X k).1) (fun k => (X k).2) := by
  rcases h.bs with h0 | ⟨b, off, e, hl, hq⟩
  · exact ⟨⟨h.le, h.max, .inl h0⟩, h.fits, fun k hk => by omega, fun k hk => by omega, fun k hk => by omega, fun k hk => by omega⟩
  · exact ⟨⟨h.le, h.max, .inr ⟨b, off, e, hl, fun k hk => (hq k hk).pa⟩⟩, h.fits, fun k hk => (hq k hk).iz, fun k hk => (hq k hk).mz, fun k hk => (hq k hk).ib, fun k hk => (hq k hk).mb⟩
structure AkV where
  t : Int
  a : Option Addr
  K : Nat
  c : Nat
  V : Nat → Lk.PcV
  A : Nat → PcA
  da : Option Addr
  dn : Nat
  dc : Nat
  dg : Nat → Int
  en : Int
structure AkAt (W : World) (b o : Nat) (v : AkV) : Prop where
  c0 : W.cell? ⟨b, o, none⟩ = some (.int .i64 v.t)
  c1 : W.cell? ⟨b, o + 1, none⟩ = some (.slice v.a v.K v.c)
  c2 : W.cell? ⟨b, o + 2, none⟩ = some (.slice v.da v.dn v.dc)
  c3 : W.cell? ⟨b, o + 3, none⟩ = some (.int .i64 v.en)
  ps : PcsQ W v.a v.K v.c v.V v.A
  d : BsIn W v.da v.dn v.dc v.dg
  dz : v.dn ≤ reachBytes
set_option maxRecDepth 100000 in
theorem open_asks6 {H : Type} {enc : TypeId × Value → H} {W : World} {spare : Nat → Bool} {held : Bool} {fuel : Nat} {cs : List Value} {x : DataW H × List MemPlace}
    (h : DataW.trod enc Tryz.prog W 0 spare held fuel 22 cs = some x) (hs : Fits 22 x.1) : ∃ a len cap V, cs = [.slice a len cap] ∧ RowB 4 64 AkAt W a len cap V := by
  have c1 : Tryz.prog.cellsOf 3 = 1 := by kernel_rfl
  have c2 : Tryz.prog.cellsOf 23 = 1 := by kernel_rfl
  have c3 : Tryz.prog.cellsOf 24 = 1 := by kernel_rfl
  refine open_rowB ⟨0, none, 0, 0, fun _ => ⟨0, fun _ => zeroI, 0, fun _ => 0⟩, fun _ => ⟨none, 0, none, 0, 0⟩, none, 0, 0, fun _ => 0, 0⟩ AkAt Tryz.underlying22 (c := 4) (by kernel_rfl) (by decide) (by kernel_rfl) hs (fun n cs b o y hl hb hc hy hz => ?_) h
  obtain ⟨xs, kk, hk, hxy, _, hxl, hf⟩ := DataW.trod_struct Tryz.underlying26 hy
  match xs, hxl, cs, hl with
  | [z0, z1, z2, z3], _, [v0, v1, v2, v3], _ =>
    have g0 := hf 0 _ rfl
    have g1 := hf 1 _ rfl
    have g2 := hf 2 _ rfl
    have g3 := hf 3 _ rfl
    simp [c1, c2, c3] at g0 g1 g2 g3
    obtain ⟨n0, e0, _⟩ := DataW.trod_int Tryz.underlying3 g0
    obtain ⟨a1, l1, p1, V1, e1, f1⟩ := open_pieces g1 (hz.field Tryz.underlying26 hxy (i := 1) rfl rfl)
    obtain ⟨a2, l2, p2, V2, e2, f2⟩ := open_bytes g2
    have d2 := slice_fits Tryz.underlying24 (by decide +kernel) (hz.field Tryz.underlying26 hxy (i := 2) rfl rfl) g2 e2
    obtain ⟨n3, e3, _⟩ := DataW.trod_int Tryz.underlying3 g3
    simp at e0 e1 e2 e3
    subst e0 e1 e2 e3
    exact ⟨⟨n0, a1, l1, p1, fun k => (V1 k).1, fun k => (V1 k).2, a2, l2, p2, V2, n3⟩, hc 0 _ rfl, hc 1 _ rfl, hc 2 _ rfl, hc 3 _ rfl, f1.pieces, f2, d2⟩
end Go.Proofs.YtkiockffejlnhaaGreatDoor

/- Copies of pieces. -/
namespace Go.Proofs.YtkiockffejlnhaaGreatDoor
open Go.RowKit
set_option linter.unusedVariables false
theorem grown_ch {w w' : World} {row : Option Nat} (h : w.grownBy w' row) : Ch w w' row.toList := ⟨h.os, h.tape, h.output, h.size, fun k hk hn => h.block k hk (by intro e; subst e; simp at hn)⟩
def InsB (w : World) (b : Nat) : Prop := ∃ cur, w.heap[b]? = some (.cells cur 50 (0, 0))
theorem InsB.lt {w : World} {b : Nat} (h : InsB w b) : b < w.heap.size := by obtain ⟨cur, h⟩ := h; exact (Array.getElem?_eq_some_iff.1 h).1
theorem InsB.ch {w w' : World} {b : Nat} {l : List Nat} (h : InsB w b) (hg : Ch w w' l) (hb : b ∉ l) : InsB w' b := by
  have hl := h.lt
  obtain ⟨cur, h⟩ := h
  exact ⟨cur, (hg.block b hl hb).trans h⟩
theorem InsIn.grow {N : Nat} {w w' : World} {a : Option Addr} {n c : Nat} {I : Nat → InV} (h : InsIn N w a n c I) (hg : w.grownBy w' none) : InsIn N w' a n c I := h.ch (l := []) (Ch.of hg) (by simp)
theorem InsIn.ch2 {N : Nat} {w w' : World} {a : Option Addr} {n c : Nat} {I : Nat → InV} {l : List Nat} (h : InsIn N w a n c I) (hg : Ch w w' l) (hl : ∀ b o, a = some ⟨b, o, none⟩ → b ∉ l) : InsIn N w' a n c I :=
  ⟨h.le, h.max, by
    rcases h.lie with h0 | ⟨b, off, e, hb, hi⟩
    · exact .inl h0
    · exact .inr ⟨b, off, e, hb, fun i hi' => (hi i hi').ch hg (hl b off e)⟩, h.rng⟩
theorem InAt.get {w : World} {b o : Nat} {v : InV} (h : InAt w b o v) {k : Nat} (hk : k < 9) : w.cell? ⟨b, o + k, none⟩ = (cells9 v)[k]? := by
  have : k = 0 ∨ k = 1 ∨ k = 2 ∨ k = 3 ∨ k = 4 ∨ k = 5 ∨ k = 6 ∨ k = 7 ∨ k = 8 := by omega
  rcases this with rfl | rfl | rfl | rfl | rfl | rfl | rfl | rfl | rfl
  · exact h.c0
  · exact h.c1
  · exact h.c2
  · exact h.c3
  · exact h.c4
  · exact h.c5
  · exact h.c6
  · exact h.c7
  · exact h.c8
theorem insIn_own' {W : World} {base T c N : Nat} {l : List InV} (h : OwnI W base (.slice (some ⟨T, 0, none⟩) l.length c) l) (hN : W.heap.size ≤ N) (hr : ∀ v, v ∈ l → InRng v) (I : Nat → InV) (hI : ∀ i (hi : i < l.length), I i = l[i]) : InsIn N W (some ⟨T, 0, none⟩) l.length c I := by
  obtain ⟨ao, c', e, hc, _⟩ := h.slice
  simp at e
  obtain ⟨_, rfl⟩ := e
  have hm : c ≤ maxLen := by
    rcases h.2 with ⟨e1, _⟩ | ⟨g, c2, cur, e1, _, _, _, hm, _⟩
    · cases e1
    · simp at e1; obtain ⟨_, rfl⟩ := e1; exact hm
  refine ⟨hc, hm, .inr ⟨T, 0, rfl, Nat.lt_of_lt_of_le (World.ownsRow.lt h T rfl).2 hN, fun i hi => ?_⟩, fun i hi => ?_⟩
  · rw [hI i hi]; exact h.inAt rfl hi
  · rw [hI i hi]; exact hr _ (List.getElem_mem hi)
set_option maxRecDepth 100000 in
set_option maxHeartbeats 4000000 in
theorem copyInsts_any {N : Nat} {w : World} {a : Option Addr} {n c : Nat} {I : Nat → InV} (h : InsIn N w a n c I) (hz : a = none → n = 0 ∧ c = 0) (hf : n * 72 ≤ reachBytes) :
    Calls Tryz.prog 36 #[.slice a n c] w fun e w' => ∃ a' c', e = .returned (.slice a' n c') ∧ InsIn w'.heap.size w' a' n c' I ∧ (a' = none → n = 0 ∧ c' = 0) ∧ (∀ b o, a' = some ⟨b, o, none⟩ → w.heap.size ≤ b ∧ InsB w' b) ∧ w.grownBy w' none := by
  obtain ⟨i, hi, hz0, hz1, hz2⟩ := info_parts info_inst
  have hf' : n * 72 ≤ 140737488351232 := hf
  have hle := h.le
  have hmx := h.max
  unfold maxLen at hmx
  cases a with
  | none =>
    obtain ⟨rfl, rfl⟩ := hz rfl
    go_enter Tryz.func36, Tryz.ntmps36
    go_wp2_with (at_builtin; refine wpList_append_own_none rfl _ _ 46 rfl w.heap.size 50 i 9 Tryz.underlying46 hi (.slice none 0 0) 0 [] rfl (World.ownsRow_nil _ _ _ _) rfl ?_)
    go_ret
    exact ⟨none, 0, rfl, ⟨Nat.le_refl _, Nat.zero_le _, .inl rfl, fun i hi => by omega⟩, fun _ => by simp, (fun b o e => by cases e), World.grownBy.refl _ _⟩
  | some ad =>
    have HL : Hid (∀ j u, (((List.range n).map I).flatMap cells9)[j]? = some u → w.cell? (ad.add j) = some u) := by
      intro j u hj
      have hjn : j < n * 9 := by have := (List.getElem?_eq_some_iff.1 hj).1; rw [flat9_len] at this; simpa using this
      obtain ⟨b, off, e, _, hc, _⟩ := h.at (i := j / 9) (by omega)
      injection e with e
      subst e
      have h1 := flat9_at ((List.range n).map I) (j / 9) (j % 9) (by simp; omega) (by omega)
      rw [show j / 9 * 9 + j % 9 = j by omega, hj] at h1
      have h2 := hc.get (k := j % 9) (by omega)
      rw [addr_add, show off + j = off + j / 9 * 9 + j % 9 by omega, h2, h1]
      simp
    have hl : (((List.range n).map I).flatMap cells9).length = n * 9 := by rw [flat9_len]; simp
    have h1c : ∀ u ∈ ((List.range n).map I).flatMap cells9, u.oneCell' = true := by intro y hy; obtain ⟨z, _, hz⟩ := List.mem_flatMap.mp hy; simp [cells9] at hz; rcases hz with rfl | rfl | rfl | rfl | rfl | rfl | rfl | rfl | rfl <;> rfl
    obtain ⟨Z, hZ⟩ : ∃ Z, Z = ((List.range n).map I).flatMap cells9 := ⟨_, rfl⟩
    rw [← hZ] at HL hl h1c
    have HZ : Hid (Z = ((List.range n).map I).flatMap cells9) := hZ
    have HR : Hid (∀ i, i < n → InRng (I i)) := h.rng
    clear h hZ hz
    go_enter Tryz.func36, Tryz.ntmps36
    go_wp2_with (at_builtin; refine wpList_append_own _ rfl _ _ 46 rfl w.heap.size 50 i _ 9 72 Tryz.underlying46 hi hz0 hz1 hz2 rfl (by decide) (.slice none 0 0) 0 [] rfl (World.ownsRow_nil _ _ _ _) ad n c Z rfl hl HL.out h1c (by unfold maxLen; omega) (by omega) (Nat.le_refl _) ?_; intro v' w2 ho2 hg2 hv2)
    go_ret
    have ho : OwnI w2 w.heap.size v' ((List.range n).map I) := by
      unfold OwnI
      rw [List.length_map, List.length_range, ← HZ.out]
      simpa using ho2
    rcases ho.2 with ⟨rfl, h0⟩ | ⟨T5, c5, cur, rfl, hb5, hg5, hc5, hm5, _⟩
    · have h0' : n = 0 := by simpa using h0
      subst h0'
      exact ⟨none, 0, rfl, ⟨Nat.le_refl _, Nat.zero_le _, .inl rfl, fun i hi => by omega⟩, fun _ => ⟨rfl, rfl⟩, (fun b o e => by cases e), hg2⟩
    · have en : ((List.range n).map I).length = n := by simp
      have e2 := insIn_own' ho (Nat.le_refl _) (fun v hv => by obtain ⟨k, hk, rfl⟩ := List.mem_map.1 hv; exact HR.out k (by simpa using hk)) I (fun i hi => by simp)
      rw [en] at e2 hc5 ⊢
      refine ⟨_, c5, rfl, e2, (fun e => by cases e), fun b o e => ?_, hg2⟩
      injection e with e
      injection e with e
      subst e
      exact ⟨hb5, cur, hg5⟩
end Go.Proofs.YtkiockffejlnhaaGreatDoor
