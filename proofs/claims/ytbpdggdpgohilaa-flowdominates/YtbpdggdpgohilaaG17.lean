/- Contracts and plain facts that the walks share. -/
import Derived.Test.YtbpdggdpgohilaaG5
import Derived.Test.YtbpdggdpgohilaaG3
import Derived.Test.YtbpdggdpgohilaaG7
import Derived.Test.YtbpdggdpgohilaaG1
import Derived.Deep.Slices
import Derived.OpenShut
import Derived.SizedLaws
import Derived.Laws.AppendOwnNone
import Derived.OwnWalk
import Derived.Laws.CopyOwn
namespace Go.Proofs.Ytbpdggdpgohilaa
open Go.RowKit
set_option linter.unusedVariables false
/-- all that is told of a reading is within reach -/
def Fits {H : Type} (t : TypeId) (d : DataW H) : Prop := ∀ n ∈ d.weights Try.prog t, n ≤ reachBytes
theorem weights_all {H : Type} {e : TypeId} : ∀ {l : List (DataW H)} {d : DataW H}, d ∈ l → ∀ n ∈ d.weights Try.prog e, n ∈ DataW.weightsAll Try.prog e l
  | d0 :: l, d, hd, n, hn => by
    simp only [DataW.weightsAll, List.mem_append]
    rcases List.mem_cons.1 hd with rfl | h
    · exact .inl hn
    · exact .inr (weights_all h n hn)
theorem Fits.len {H : Type} {t e : TypeId} {l r : List (DataW H)} (ht : Try.prog.underlying t = some (.slice e)) (h : Fits t (.slice l r)) (hb : 0 < Try.prog.bytesOf e) : l.length ≤ reachBytes := by
  have := h ((l.length + r.length) * Try.prog.bytesOf e) (by simp [DataW.weights, ht])
  refine Nat.le_trans ?_ this
  exact Nat.le_trans (Nat.le_add_right _ _) (Nat.le_mul_of_pos_right _ hb)
theorem Fits.elem {H : Type} {t e : TypeId} {l r : List (DataW H)} {d : DataW H} (ht : Try.prog.underlying t = some (.slice e)) (h : Fits t (.slice l r)) (hd : d ∈ l) : Fits e d := fun n hn =>
  h n (by simp only [DataW.weights, ht, List.mem_cons, List.mem_append]; exact .inr (.inl (weights_all hd n hn)))
theorem Fits.field {H : Type} {t : TypeId} {fs : Array Field} {xs : List (DataW H × List MemPlace)} {q : List MemPlace} {x y : DataW H × List MemPlace} {i : Nat} {f : Field} (ht : Try.prog.underlying t = some (.struct fs)) (h : Fits t x.1) (hx : x = (.agg (xs.map (·.1)), q)) (hf : fs[i]? = some f) (hy : xs[i]? = some y) : Fits f.type y.1 := fun n hn =>
  h n (by
    subst hx
    simp only [DataW.weights, ht]
    exact DataW.weights_mem_each (j := i) (t := f.type) (d := y.1) (by simp [hf]) (by simp [hy]) n hn)
/-- how long a slice is -/
theorem slice_fits {t e : TypeId} {H : Type} {enc : TypeId × Value → H} {W : World} {spare : Nat → Bool} {held : Bool} {fuel : Nat} {cs : List Value} {x : DataW H × List MemPlace}
    (ht : Try.prog.underlying t = some (.slice e)) (hb : 0 < Try.prog.bytesOf e) (hs : Fits t x.1) (h : DataW.trod enc Try.prog W 0 spare held fuel t cs = some x) {a : Option Addr} {len cap : Nat} (hc : cs = [.slice a len cap]) : len ≤ reachBytes := by
  rcases Go.Deep.open_slice ht h with ⟨hcs, _⟩ | ⟨a', len', cap', m, n, D, Pl, hcs, _, hl, hm, hmm, hx, _⟩
  · rw [hc] at hcs
    simp at hcs
    obtain ⟨_, rfl, _⟩ := hcs
    exact Nat.zero_le _
  · rw [hc] at hcs
    simp at hcs
    obtain ⟨_, rfl, _⟩ := hcs
    rw [hx] at hs
    have := Fits.len ht hs hb
    simpa using this
theorem addr_add (b off n : Nat) : (⟨b, off, none⟩ : Addr).add n = ⟨b, off + n, none⟩ := by simp [Addr.add]
theorem Fits.lenB {H : Type} {t e : TypeId} {l r : List (DataW H)} (ht : Try.prog.underlying t = some (.slice e)) (h : Fits t (.slice l r)) : l.length * Try.prog.bytesOf e ≤ reachBytes := by
  have := h ((l.length + r.length) * Try.prog.bytesOf e) (by simp [DataW.weights, ht])
  exact Nat.le_trans (Nat.mul_le_mul_right _ (Nat.le_add_right _ _)) this
/-- numbers -/
def NumC (W : World) (b o : Nat) (z : Int) : Prop := W.cell? ⟨b, o, none⟩ = some (.int .i64 z)
theorem open_rowL {α : Type} {t e : TypeId} {c by' : Nat} {H : Type} {enc : TypeId × Value → H} {W : World} {spare : Nat → Bool} {held : Bool} {fuel : Nat} {cs : List Value} {x : DataW H × List MemPlace} (Q : Nat → Nat → α → Prop)
    (ht : Try.prog.underlying t = some (.slice e)) (hc : Try.prog.cellsOf e = c) (c0 : 0 < c) (hby : Try.prog.bytesOf e = by') (hs : Fits t x.1)
    (each : ∀ n, n < fuel → ∀ (cs : List Value) (b o : Nat) (y : DataW H × List MemPlace), cs.length = c → b < W.heap.size → (∀ j v, cs[j]? = some v → W.cell? ⟨b, o + j, none⟩ = some v) → DataW.trod enc Try.prog W 0 spare held n e cs = some y → Fits e y.1 → ∃ z : α, Q b o z)
    (h : DataW.trod enc Try.prog W 0 spare held fuel t cs = some x) : ∃ a cap l, cs = [.slice a l.length cap] ∧ RowL c by' (· < W.heap.size) Q a cap l := by
  rcases DataW.trod_slice ht h with ⟨hcs, _⟩ | ⟨a', len, cap, elems, rest, n, hf, hcs, hxx, hb, hl, hm, hlen, hel, _, _⟩
  · exact ⟨none, 0, [], hcs, fun _ => ⟨rfl, rfl⟩, Nat.le_refl _, Nat.zero_le _, by simp, .inl rfl⟩
  · rw [hxx] at hs
    have hfl : len * by' ≤ reachBytes := by have := Fits.lenB ht hs; rw [hby] at this; simpa [hlen] using this
    by_cases h0 : len = 0
    · subst h0
      exact ⟨_, cap, [], hcs, (fun h => by cases h), Nat.zero_le _, hm, by simp, .inl rfl⟩
    have get : ∀ i, i < len → ∃ cs' y, W.cells? 0 (a'.add (i * c)) c = some cs' ∧ DataW.trod enc Try.prog W 0 spare held n e cs' = some y ∧ y ∈ elems := by
      intro i hi
      have := hel i hi
      rw [List.getElem?_eq_getElem (by omega), hc] at this
      obtain ⟨cs', h1, h2⟩ := Option.bind_eq_some_iff.1 this
      exact ⟨cs', _, h1, h2, List.getElem_mem _⟩
    obtain ⟨b, off, spot⟩ := a'
    have h00 : spot = none ∧ b < W.heap.size := by
      obtain ⟨cs', y, h1, h2, _⟩ := get 0 (by omega)
      obtain ⟨_, hlen', hcell⟩ := World.cells?_some h1
      have k0 := hcell 0 (by omega)
      obtain ⟨v, hv⟩ : ∃ v, W.cell? ⟨b, off, spot⟩ = some v := by
        have : W.cell? ⟨b, off, spot⟩ = cs'[0]? := by simpa [Addr.add] using k0
        rw [List.getElem?_eq_getElem (by omega)] at this
        exact ⟨_, this⟩
      exact ⟨World.cell?_spot hv, World.block_lt_of_cell? _ _ hv⟩
    obtain ⟨rfl, hlt⟩ := h00
    have each' : ∀ i, i < len → ∃ z : α, Q b (off + i * c) z := by
      intro i hi
      obtain ⟨cs', y, h1, h2, h3⟩ := get i hi
      obtain ⟨_, hlen', hcell⟩ := World.cells?_some h1
      refine each n (by omega) cs' b (off + i * c) y hlen' hlt (fun j v hv => ?_) h2 (Fits.elem ht hs (List.mem_map.2 ⟨y, h3, rfl⟩))
      have hj : j < c := by rw [← hlen']; exact (List.getElem?_eq_some_iff.1 hv).1
      have k := hcell j hj
      rw [addr_add, addr_add] at k
      exact k.trans hv
    obtain ⟨z0, _⟩ := each' 0 (by omega)
    obtain ⟨f, hff⟩ : ∃ f : Nat → α, ∀ i, i < len → Q b (off + i * c) (f i) :=
      ⟨fun i => if hi : i < len then Classical.choose (each' i hi) else z0, fun i hi => by simp only [dif_pos hi]; exact Classical.choose_spec (each' i hi)⟩
    refine ⟨_, cap, (List.range len).map f, by simpa using hcs, (fun h => by cases h), by simpa using hl, hm, by simpa using hfl, .inr ⟨b, off, rfl, hlt, fun i x hx => ?_⟩⟩
    rw [List.getElem?_map] at hx
    obtain ⟨j, hj, rfl⟩ := Option.map_eq_some_iff.1 hx
    obtain ⟨hi, rfl⟩ : i < len ∧ i = j := by
      have h1 : i < len := by have := (List.getElem?_eq_some_iff.1 hj).1; simpa using this
      rw [List.getElem?_range h1] at hj
      exact ⟨h1, by simpa using hj⟩
    exact hff i hi
theorem open_numL {H : Type} {enc : TypeId × Value → H} {W : World} {spare : Nat → Bool} {held : Bool} {fuel : Nat} {cs : List Value} {x : DataW H × List MemPlace}
    (h : DataW.trod enc Try.prog W 0 spare held fuel 24 cs = some x) (hs : Fits 24 x.1) : ∃ a cap l, cs = [.slice a l.length cap] ∧ NumL (· < W.heap.size) W a cap l := by
  refine open_rowL (NumQ W) Try.underlying24 (c := 1) (by kernel_rfl) (by decide) (by kernel_rfl) hs (fun n hn cs b o y hl hb hc hy hz => ?_) h
  obtain ⟨z, e, _, f⟩ := DataW.trod_int Try.underlying3 hy
  subst e
  exact ⟨z, hc 0 _ rfl⟩
/-- the value is known -/
def eqV (x : Value) : Value → World → Prop := fun v _ => v = x
/-- what is known of the i-th operation's value -/
def psiL (L : List (Value → World → Prop)) (i : Nat) (v : Value) (w : World) : Prop := L.getD i (fun _ _ => False) v w
def StabV (f : Value → World → Prop) : Prop := ∀ v w w', f v w → w.grownBy w' none → f v w'
theorem stab_eq (x : Value) : StabV (eqV x) := fun _ _ _ h _ => h
def StabL : List (Value → World → Prop) → Prop
  | [] => True
  | f :: l => StabV f ∧ StabL l
theorem psiL_stable : ∀ {L : List (Value → World → Prop)}, StabL L → ∀ {i : Nat} {v : Value} {w w' : World}, psiL L i v w → w.grownBy w' none → psiL L i v w'
  | [], _, _, _, _, _, h, _ => by simp [psiL] at h
  | f :: l, hs, 0, v, w, w', h, g => hs.1 v w w' h g
  | f :: l, hs, i + 1, v, w, w', h, g => by
    have := psiL_stable (i := i) hs.2 (by simpa [psiL] using h) g
    simpa [psiL] using this
theorem psiL_eq {L : List (Value → World → Prop)} {i : Nat} {v x : Value} {w : World} (h : psiL L i v w) (e : L[i]? = some (eqV x)) : v = x := by
  unfold psiL at h
  rw [List.getD_eq_getElem?_getD, e] at h
  exact h
theorem stab_nil : StabL [] := trivial
theorem stab_cons {f : Value → World → Prop} {l : List (Value → World → Prop)} (h1 : StabV f) (h2 : StabL l) : StabL (f :: l) := ⟨h1, h2⟩
theorem psiL_hst {n : Nat} {L : List (Value → World → Prop)} (h : StabL L) : ∀ i v w w', i < n → psiL L i v w → w.grownBy w' none → psiL L i v w' := fun _ _ _ _ _ h1 g => psiL_stable h h1 g
namespace Pg
mutual
def Ex.w : Ex → Int
  | .mk _ _ _ s args => 1 + ((s.size : Int) / 16) + wEs args
def wEs : List Ex → Int
  | [] => 0
  | x :: l => x.w + wEs l
end
mutual
def St.w : St → Int
  | .mk _ _ args dst a b => 1 + (dst.length : Int) + wEs args + wSs a + wSs b
def wSs : List St → Int
  | [] => 0
  | x :: l => x.w + wSs l
end
theorem wEs_app (l m : List Ex) : wEs (l ++ m) = wEs l + wEs m := by
  induction l with
  | nil => simp [wEs]
  | cons x l ih => simp only [List.cons_append, wEs, ih]; omega
theorem wSs_app (l m : List St) : wSs (l ++ m) = wSs l + wSs m := by
  induction l with
  | nil => simp [wSs]
  | cons x l ih => simp only [List.cons_append, wSs, ih]; omega
theorem wEs_succ {l : List Ex} {k : Nat} (h : k < l.length) : wEs (l.take (k + 1)) = wEs (l.take k) + l[k].w := by
  rw [List.take_succ_eq_append_getElem h, wEs_app]
  simp [wEs]
theorem wSs_succ {l : List St} {k : Nat} (h : k < l.length) : wSs (l.take (k + 1)) = wSs (l.take k) + l[k].w := by
  rw [List.take_succ_eq_append_getElem h, wSs_app]
  simp [wSs]
theorem Ex.w_eq (x : Ex) : x.w = 1 + ((x.s.size : Int) / 16) + wEs x.args := by obtain ⟨_, _, _, _, _⟩ := x; simp only [Ex.w]; rfl
theorem St.w_eq (x : St) : x.w = 1 + (x.dst.length : Int) + wEs x.args + wSs x.a + wSs x.b := by obtain ⟨_, _, _, _, _, _⟩ := x; simp only [St.w]; rfl
end Pg
/-- what a sum that stops beyond most tells -/
def Wt (most n r s : Int) : Prop := n ≤ r ∧ r ≤ 100000000000000 ∧ (r ≤ most → r = n + s)
/-- a number of which something is known -/
def intV (p : Int → Prop) : Value → World → Prop := fun v _ => ∃ r, v = .int .i64 r ∧ p r
theorem stab_int (p : Int → Prop) : StabV (intV p) := fun _ _ _ h _ => h
theorem ExL.grow {B : Nat → Prop} {W W' : World} {a : Option Addr} {cap : Nat} {xs : List Pg.Ex} (h : ExL B W a cap xs) (hg : W.grownBy W' none) : ExL B W' a cap xs := ExL.ch h (l := []) (Ch.of hg) (by simp) (fun _ h => h)
theorem StL.grow {B : Nat → Prop} {W W' : World} {a : Option Addr} {cap : Nat} {xs : List Pg.St} (h : StL B W a cap xs) (hg : W.grownBy W' none) : StL B W' a cap xs := StL.ch h (l := []) (Ch.of hg) (by simp) (fun _ h => h)
theorem NumL.grow {B : Nat → Prop} {W W' : World} {a : Option Addr} {cap : Nat} {xs : List Int} (h : NumL B W a cap xs) (hg : W.grownBy W' none) : NumL B W' a cap xs := NumL.ch h (l := []) (Ch.of hg) (by simp) (fun _ h => h)
theorem TpL.grow {B : Nat → Prop} {W W' : World} {a : Option Addr} {cap : Nat} {xs : List Pg.Tp} (h : TpL B W a cap xs) (hg : W.grownBy W' none) : TpL B W' a cap xs := TpL.ch h (l := []) (Ch.of hg) (by simp) (fun _ h => h)
theorem FnL.grow {B : Nat → Prop} {W W' : World} {a : Option Addr} {cap : Nat} {xs : List Pg.Fn} (h : FnL B W a cap xs) (hg : W.grownBy W' none) : FnL B W' a cap xs := FnL.ch h (l := []) (Ch.of hg) (by simp) (fun _ h => h)
theorem Wt.trans {most n q1 q2 s1 s2 : Int} (h1 : Wt most n q1 s1) (h2 : Wt most q1 q2 s2) : Wt most n q2 (s1 + s2) := by
  obtain ⟨a1, a2, a3⟩ := h1
  obtain ⟨b1, b2, b3⟩ := h2
  exact ⟨by omega, b2, fun h => by have := a3 (by omega); have := b3 h; omega⟩
/-- a block of numbers -/
def IntB (w : World) (b : Nat) : Prop := ∃ cur, w.heap[b]? = some (.cells cur 3 (0, 0))
theorem IntB.lt {w : World} {b : Nat} (h : IntB w b) : b < w.heap.size := by obtain ⟨cur, h⟩ := h; exact (Array.getElem?_eq_some_iff.1 h).1
theorem IntB.ch {w w' : World} {b : Nat} {l : List Nat} (h : IntB w b) (hg : Ch w w' l) (hb : b ∉ l) : IntB w' b := by
  have hl := h.lt
  obtain ⟨cur, h⟩ := h
  exact ⟨cur, (hg.block b hl hb).trans h⟩
theorem NumIn.grow {N : Nat} {w w' : World} {a : Option Addr} {n c : Nat} {M : Nat → Int} (h : NumIn N w a n c M) (hg : w.grownBy w' none) : NumIn N w' a n c M := h.ch (l := []) (Ch.of hg) (by simp)
theorem OwnZ.numIn {w : World} {base : Nat} {v : Value} {l : List Int} {M : Nat → Int} {n : Nat} (h : OwnZ w base v l) (hn : l.length = n) (hM : ∀ i, i < n → l.getD i 0 = M i) : ∃ a c, v = .slice a n c ∧ NumIn w.heap.size w a n c M := by
  subst hn
  obtain ⟨a, c, rfl, h1, h2, h3⟩ := h.slice
  refine ⟨a, c, rfl, h1, h2, ?_⟩
  by_cases h0 : l.length = 0
  · exact .inl h0
  · obtain ⟨T, rfl, _, hT⟩ := h3 (by omega)
    exact .inr ⟨T, 0, rfl, hT, fun i hi => by rw [Nat.zero_add, ← hM i hi]; exact h.n.cell hi⟩
theorem NumIn.ch2 {N : Nat} {w w' : World} {a : Option Addr} {n c : Nat} {M : Nat → Int} {l : List Nat} (h : NumIn N w a n c M) (hg : Ch w w' l) (hl : ∀ b o, a = some ⟨b, o, none⟩ → b ∉ l) : NumIn N w' a n c M :=
  ⟨h.le, h.max, by
    rcases h.lie with h0 | ⟨b, off, e, hb, hi⟩
    · exact .inl h0
    · exact .inr ⟨b, off, e, hb, fun i hi' => hg.cell (hi i hi') (hl b off e)⟩⟩
theorem cells_new {w : World} (c : Array Value) (t : TypeId) {b : Nat} (hb : b = w.heap.size) (j : Nat) : (w.alloc (.cells c t)).cell? ⟨b, j, none⟩ = c[j]? := by subst hb; exact World.cell?_alloc_new _ _ _ _
theorem fzs_new {w : World} (c : Array Value) (t : TypeId) {b : Nat} (hb : b = w.heap.size) (j : Nat) : (w.alloc (.cells c t)).frozen? ⟨b, j, none⟩ = false := by subst hb; simp
set_option maxRecDepth 100000 in
set_option maxHeartbeats 4000000 in
theorem copyNums_any {N : Nat} {w : World} {a : Option Addr} {n c : Nat} {M : Nat → Int} (h : NumIn N w a n c M) (hz : a = none → n = 0 ∧ c = 0) (hf : n * 8 ≤ reachBytes) :
    Calls Try.prog 18 #[.slice a n c] w fun e w' => ∃ a' c', e = .returned (.slice a' n c') ∧ NumIn w'.heap.size w' a' n c' M ∧ (a' = none → n = 0 ∧ c' = 0) ∧ (∀ b o, a' = some ⟨b, o, none⟩ → w.heap.size ≤ b ∧ IntB w' b) ∧ w.grownBy w' none := by
  obtain ⟨i, hi, hz0, hz1, hz2⟩ := info_parts info_int
  have hf' : n * 8 ≤ 140737488351232 := hf
  have hle := h.le
  have hmx := h.max
  have hmx' := h.max
  unfold maxLen at hmx
  cases a with
  | none =>
    obtain ⟨rfl, rfl⟩ := hz rfl
    go_enter Try.func18, Try.ntmps18
    go_wp2_with (at_builtin; refine wpList_append_own_none rfl _ _ 24 rfl w.heap.size 3 i 1 Try.underlying24 hi (.slice none 0 0) 0 [] rfl (World.ownsRow_nil _ _ _ _) rfl ?_)
    go_ret
    exact ⟨none, 0, rfl, ⟨Nat.le_refl _, Nat.zero_le _, .inl rfl⟩, fun _ => by simp, (fun b o e => by cases e), World.grownBy.refl _ _⟩
  | some ad =>
    have HL : Hid (∀ j u, (((List.range n).map M).map (Value.int .i64))[j]? = some u → w.cell? (ad.add j) = some u) := by
      intro j u hj
      have hjn : j < n := by have := (List.getElem?_eq_some_iff.1 hj).1; simpa using this
      obtain ⟨b, off, e, _, hc⟩ := h.at hjn
      injection e with e
      subst e
      rw [addr_add, hc, ← hj]
      simp [hjn]
    have hl : (((List.range n).map M).map (Value.int .i64)).length = n * 1 := by simp
    have h1c : ∀ u ∈ ((List.range n).map M).map (Value.int .i64), u.oneCell' = true := by intro y hy; obtain ⟨z, _, rfl⟩ := List.mem_map.mp hy; rfl
    obtain ⟨Z, hZ⟩ : ∃ Z, Z = ((List.range n).map M).map (Value.int .i64) := ⟨_, rfl⟩
    rw [← hZ] at HL hl h1c
    have HZ : Hid (Z = ((List.range n).map M).map (Value.int .i64)) := hZ
    clear h hZ hz
    go_enter Try.func18, Try.ntmps18
    go_wp2_with (at_builtin; refine wpList_append_own _ rfl _ _ 24 rfl w.heap.size 3 i (.int .i64 0) 1 8 Try.underlying24 hi hz0 hz1 hz2 rfl (by decide) (.slice none 0 0) 0 [] rfl (World.ownsRow_nil _ _ _ _) ad n c Z rfl hl HL.out h1c (by unfold maxLen; omega) (by omega) (Nat.le_refl _) ?_; intro v' w2 ho2 hg2 hv2)
    go_ret
    have ho : OwnZ w2 w.heap.size v' ((List.range n).map M) := by
      unfold OwnZ
      rw [List.length_map, List.length_range, ← HZ.out]
      simpa using ho2
    obtain ⟨a', c', rfl, hN⟩ := ho.numIn (M := M) (n := n) (by simp) (fun i hi => by simp [List.getD_eq_getElem?_getD, hi])
    refine ⟨a', c', rfl, hN, fun e => ?_, fun b o e => ?_, hg2⟩
    rotate_left
    · subst e
      rcases ho.2 with ⟨e, h0⟩ | ⟨T5, c5, cur, e, hb5, hg5, _⟩
      · cases e
      · injection e with e1 e2 e3
        injection e1 with e1
        injection e1 with e1
        subst e1
        exact ⟨hb5, cur, hg5⟩
    subst e
    rcases ho.2 with ⟨e, h0⟩ | ⟨T5, c5, cur, e, _⟩
    · injection e with e1 e2 e3
      exact ⟨by simpa using h0, e3⟩
    · cases e
theorem flat_at {E : Type} {cells : E → List Value} {size : Nat} (hs : ∀ e, (cells e).length = size) : ∀ (L : List E) (i j : Nat) (hi : i < L.length), j < size → (L.flatMap cells)[i * size + j]? = (cells L[i])[j]?
  | [], i, j, hi, _ => by simp at hi
  | e :: L, 0, j, _, hj => by
    rw [List.flatMap_cons, List.getElem?_append_left (by rw [hs]; omega)]
    simp
  | e :: L, i + 1, j, hi, hj => by
    rw [List.flatMap_cons, List.getElem?_append_right (by rw [hs, Nat.succ_mul]; omega), hs, show (i + 1) * size + j - size = i * size + j by rw [Nat.succ_mul]; omega]
    exact flat_at hs L i j (by simpa using hi) hj
theorem flat_len {E : Type} {cells : E → List Value} {size : Nat} (hs : ∀ e, (cells e).length = size) (L : List E) : (L.flatMap cells).length = L.length * size := by
  induction L with
  | nil => simp
  | cons e L ih => rw [List.flatMap_cons, List.length_append, ih, hs, List.length_cons, Nat.succ_mul]; omega
theorem grown_cho {w w' : World} {row : Option Nat} (h : w.grownBy w' row) : Ch w w' row.toList := ⟨h.os, h.tape, h.output, h.size, fun k hk hn => h.block k hk (by intro e; subst e; simp at hn)⟩
/-- a copy of a row, as far as it has come -/
structure CopG {E : Type} (ty : TypeId) (size : Nat) (cells : E → List Value) (In : (Nat → Prop) → World → E → Prop) (w wr : World) (k : Nat) (v : Value) (L : List E) : Prop where
  own : wr.ownsRow w.heap.size ty size v L.length (L.flatMap cells)
  len : L.length = k
  ent : ∀ (i : Nat) (e : E), L[i]? = some e → In (fun q => w.heap.size ≤ q ∧ q < wr.heap.size ∧ v.ownBlock ≠ some q) wr e
  gr : w.grownBy wr none
/-- it goes through changes of other blocks -/
def InCh {E : Type} (In : (Nat → Prop) → World → E → Prop) : Prop := ∀ {B B' : Nat → Prop} {W W' : World} {l : List Nat} {e : E}, In B W e → Ch W W' l → (∀ q, B q → q ∉ l) → (∀ q, B q → B' q) → In B' W' e
theorem CopG.step {E : Type} {ty : TypeId} {size : Nat} {cells : E → List Value} {In : (Nat → Prop) → World → E → Prop} (hIn : InCh In) {w wr w4 w6 : World} {k : Nat} {v v6 : Value} {L : List E} (h : CopG ty size cells In w wr k v L) (g4 : wr.grownBy w4 none)
    {e : E} (he : In (fun q => wr.heap.size ≤ q ∧ q < w4.heap.size) w4 e) (o6 : w6.ownsRow w.heap.size ty size v6 (L.length + 1) (L.flatMap cells ++ cells e)) (g6 : w4.grownBy w6 v.ownBlock) (b6 : ∀ q, v6.ownBlock = some q → v.ownBlock = some q ∨ w4.heap.size ≤ q) :
    CopG ty size cells In w w6 (k + 1) v6 (L ++ [e]) := by
  have s0 := h.gr.size
  have s4 := g4.size
  have s6 := g6.size
  have c6 := grown_cho g6
  have hb : ∀ q, v.ownBlock = some q → w.heap.size ≤ q ∧ q < wr.heap.size := fun q hq => World.ownsRow.lt h.own q hq
  refine ⟨?_, by simp [h.len], fun i x hx => ?_, ?_⟩
  · rw [List.length_append, List.flatMap_append]
    simpa using o6
  · by_cases hi : i < L.length
    · rw [List.getElem?_append_left hi] at hx
      have h1 := h.ent i x hx
      refine hIn (hIn h1 (Ch.of (l := []) g4) (by simp) (B' := fun q => w.heap.size ≤ q ∧ q < wr.heap.size ∧ v.ownBlock ≠ some q) (fun _ h => h)) c6 (fun q hq hm => hq.2.2 (by simpa using hm)) (fun q hq => ⟨hq.1, by omega, fun hf => ?_⟩)
      rcases b6 q hf with h5 | h5
      · exact hq.2.2 h5
      · omega
    · have hik : i = L.length := by
        have := (List.getElem?_eq_some_iff.1 hx).1
        simp at this
        omega
      subst hik
      rw [List.getElem?_append_right (Nat.le_refl _)] at hx
      simp at hx
      subst hx
      refine hIn he c6 (fun q hq hm => ?_) (fun q hq => ⟨by omega, by omega, fun hf => ?_⟩)
      · have := (hb q (by simpa using hm)).2
        omega
      · rcases b6 q hf with h5 | h5
        · have := (hb q h5).2
          omega
        · omega
  · exact ((Ch.of (l := v.ownBlock.toList) (grown_trans h.gr g4)).trans c6).nil (fun q hq => (hb q (by simpa using hq)).1)
theorem CopG.start {E : Type} (ty : TypeId) (size : Nat) (cells : E → List Value) (In : (Nat → Prop) → World → E → Prop) (w : World) : CopG ty size cells In w w 0 (.slice none 0 0) [] := ⟨World.ownsRow_nil _ _ _ _, rfl, (fun i e h => by simp at h), World.grownBy.refl _ _⟩
/-- the copy, as a row -/
theorem CopG.row {α E : Type} {ty : TypeId} {size by' : Nat} {cells : E → List Value} {In : (Nat → Prop) → World → E → Prop} (hs : ∀ e, (cells e).length = size) {w wr : World} {k : Nat} {v : Value} {L : List E} (h : CopG ty size cells In w wr k v L) (hk : k * by' ≤ reachBytes) (val : E → α) (Q : Nat → Nat → α → Prop)
    (hQ : ∀ (b o : Nat) (e : E), (∀ j u, (cells e)[j]? = some u → wr.cell? ⟨b, o + j, none⟩ = some u) → In (fun q => w.heap.size ≤ q ∧ q < wr.heap.size) wr e → Q b o (val e)) (hm : ∀ e, In (fun q => w.heap.size ≤ q ∧ q < wr.heap.size ∧ v.ownBlock ≠ some q) wr e → In (fun q => w.heap.size ≤ q ∧ q < wr.heap.size) wr e) :
    ∃ a c, v = .slice a k c ∧ RowL size by' (fun q => w.heap.size ≤ q ∧ q < wr.heap.size) Q a c (L.map val) := by
  have hl := h.len
  subst hl
  rcases h.own.2 with ⟨rfl, h0⟩ | ⟨g, c, cur, rfl, hb, hg, hc, hcm, _⟩
  · have hn : L = [] := List.length_eq_zero_iff.1 h0
    subst hn
    exact ⟨none, 0, rfl, fun _ => ⟨rfl, rfl⟩, Nat.le_refl _, Nat.zero_le _, by simp, .inl rfl⟩
  · refine ⟨_, c, rfl, (fun h => by cases h), by simpa using hc, hcm, by simpa using hk, .inr ⟨g, 0, rfl, ⟨hb, (World.ownsRow.lt h.own g rfl).2⟩, fun i x hx => ?_⟩⟩
    rw [List.getElem?_map] at hx
    obtain ⟨e, he, rfl⟩ := Option.map_eq_some_iff.1 hx
    have hi : i < L.length := (List.getElem?_eq_some_iff.1 he).1
    have hee : L[i] = e := (List.getElem?_eq_some_iff.1 he).2
    refine hQ _ _ _ (fun j u hu => ?_) (hm _ (h.ent i e he))
    have hj : j < size := by rw [← hs e]; exact (List.getElem?_eq_some_iff.1 hu).1
    rw [Nat.zero_add, World.ownsRow.cellAt h.own (i * size + j) (by
      have : (i + 1) * size ≤ L.length * size := Nat.mul_le_mul_right _ hi
      rw [Nat.succ_mul] at this
      omega), flat_at hs L i j hi hj, hee]
    exact hu
theorem frozenK {w w' : World} {l : List Nat} (h : Ch w w' l) {b k : Nat} (hlt : b < w.heap.size) (hb : b ∉ l) (hf : w.frozen? ⟨b, k, none⟩ = false) : w'.frozen? ⟨b, k, none⟩ = false := by
  have := h.block b hlt hb
  simp only [World.frozen?] at hf ⊢
  rw [this]
  exact hf
/-- new blocks -/
abbrev Fresh (w w' : World) : Nat → Prop := fun q => w.heap.size ≤ q ∧ q < w'.heap.size
/-- a term and where its row lies -/
structure EE where
  x : Pg.Ex
  a : Option Addr
  c : Nat
def cellsE (e : EE) : List Value := [.int .i64 e.x.op, .int .i64 e.x.t, .int .i64 e.x.n, .string e.x.s, .slice e.a e.x.args.length e.c]
def InE (B : Nat → Prop) (W : World) (e : EE) : Prop := ExL B W e.a e.c e.x.args ∧ R64 e.x.n ∧ e.x.s.size ≤ reachBytes
theorem inE_ch : InCh InE := fun h hg hl hB => ⟨ExL.ch h.1 hg hl hB, h.2⟩
theorem NumL.numIn {B : Nat → Prop} {w : World} {a : Option Addr} {c N : Nat} {l : List Int} (h : NumL B w a c l) (hB : ∀ q, B q → q < N) : NumIn N w a l.length c (fun i => l.getD i 0) :=
  ⟨h.le, h.max, by
    rcases h.lie with h0 | ⟨b, o, e, hb, hx⟩
    · exact .inl (by rw [h0]; rfl)
    · exact .inr ⟨b, o, e, hB b hb, fun i hi => by
        have := hx i l[i] (List.getElem?_eq_getElem hi)
        rw [Nat.mul_one] at this
        rw [show l.getD i 0 = l[i] from by simp [List.getD_eq_getElem?_getD, hi]]
        exact this⟩⟩
/-- numbers in a row that may be written -/
def NumO (B : Nat → Prop) (W : World) (a : Option Addr) (c : Nat) (l : List Int) : Prop := NumL B W a c l ∧ (l ≠ [] → ∀ b o, a = some ⟨b, o, none⟩ → IntB W b)
theorem NumO.ch {B B' : Nat → Prop} {W W' : World} {l : List Nat} {a : Option Addr} {cap : Nat} {xs : List Int} (h : NumO B W a cap xs) (hg : Ch W W' l) (hl : ∀ k, B k → k ∉ l) (hB : ∀ k, B k → B' k) : NumO B' W' a cap xs :=
  ⟨NumL.ch h.1 hg hl hB, fun hn b o e => (h.2 hn b o e).ch hg (by
    rcases h.1.lie with h0 | ⟨b', o', e', hb, _⟩
    · exact absurd h0 hn
    · rw [e'] at e
      injection e with e
      injection e with e
      subst e
      exact hl _ hb)⟩
theorem copyNumO {B : Nat → Prop} {w : World} {a : Option Addr} {c : Nat} {l : List Int} (h : NumL B w a c l) (hB : ∀ q, B q → q < w.heap.size) :
    Calls Try.prog 18 #[.slice a l.length c] w fun e w' => ∃ a' c', e = .returned (.slice a' l.length c') ∧ NumO (Fresh w w') w' a' c' l ∧ w.grownBy w' none :=
  (copyNums_any (h.numIn hB) (fun e => by have := h.nil e; rw [this.1]; exact ⟨rfl, this.2⟩) h.fits).mono (by
    rintro e w' ⟨a', c', rfl, hn, hz, hf, hg⟩
    refine ⟨a', c', rfl, ⟨⟨fun e => ?_, hn.le, hn.max, h.fits, ?_⟩, fun _ b o e => (hf b o e).2⟩, hg⟩
    · have := hz e
      exact ⟨List.length_eq_zero_iff.1 this.1, this.2⟩
    · rcases hn.lie with h0 | ⟨b, o, e, hb, hx⟩
      · exact .inl (List.length_eq_zero_iff.1 h0)
      · refine .inr ⟨b, o, e, ⟨(hf b o e).1, hb⟩, fun i x hi => ?_⟩
        have hi' := (List.getElem?_eq_some_iff.1 hi).1
        have := hx i hi'
        rw [Nat.mul_one]
        rw [show l.getD i 0 = x from by simp [List.getD_eq_getElem?_getD, hi]] at this
        exact this)
theorem copyNumL {B : Nat → Prop} {w : World} {a : Option Addr} {c : Nat} {l : List Int} (h : NumL B w a c l) (hB : ∀ q, B q → q < w.heap.size) :
    Calls Try.prog 18 #[.slice a l.length c] w fun e w' => ∃ a' c', e = .returned (.slice a' l.length c') ∧ NumL (Fresh w w') w' a' c' l ∧ w.grownBy w' none :=
  (copyNumO h hB).mono (by rintro e w' ⟨a', c', e1, h1, h2⟩; exact ⟨a', c', e1, h1.1, h2⟩)
/-- a statement and where its rows lie -/
structure SE where
  x : Pg.St
  a1 : Option Addr
  k1 : Nat
  a2 : Option Addr
  k2 : Nat
  a3 : Option Addr
  k3 : Nat
  a4 : Option Addr
  k4 : Nat
def cellsSE (e : SE) : List Value := [.int .i64 e.x.op, .int .i64 e.x.n, .slice e.a1 e.x.args.length e.k1, .slice e.a2 e.x.dst.length e.k2, .slice e.a3 e.x.a.length e.k3, .slice e.a4 e.x.b.length e.k4]
def InSE (B : Nat → Prop) (W : World) (e : SE) : Prop := ExL B W e.a1 e.k1 e.x.args ∧ NumL B W e.a2 e.k2 e.x.dst ∧ StL B W e.a3 e.k3 e.x.a ∧ StL B W e.a4 e.k4 e.x.b ∧ R64 e.x.n
theorem inSE_ch : InCh InSE := fun h hg hl hB => ⟨ExL.ch h.1 hg hl hB, NumL.ch h.2.1 hg hl hB, StL.ch h.2.2.1 hg hl hB, StL.ch h.2.2.2.1 hg hl hB, h.2.2.2.2⟩
theorem row_put {w : World} {D S a k : Nat} {t : TypeId} {m g : Nat → Int} (h : w.rowIs D t S (fun i => .int .u8 (Mm.pt m a k g i))) :
    (w.setCell ⟨D, a + k, none⟩ (.int .u8 (g k))).rowIs D t S (fun i => .int .u8 (Mm.pt m a (k + 1) g i)) := by
  refine (h.set (a + k) _).congr fun i _ => ?_
  rw [← Mm.pt_succ]
  show (if i = a + k then Value.int .u8 (g k) else _) = _
  by_cases e : i = a + k
  · simp [e]
  · simp [e]

theorem row_put' {w : World} {D S a k : Nat} {t : TypeId} {m g : Nat → Int} {y : Int} (h : w.rowIs D t S (fun i => .int .u8 (Mm.pt m a k g i))) (e : y = g k) :
    (w.setCell ⟨D, a + k, none⟩ (.int .u8 y)).rowIs D t S (fun i => .int .u8 (Mm.pt m a (k + 1) g i)) := by rw [e]; exact row_put h

theorem by8_top {x : Int} {k : Nat} (h : k = 0) (x1 : 0 ≤ x) (x2 : x < 256) : x / 2 ^ (8 * k) = Mm.by8 x k := by subst h; simp [Mm.by8]; omega

theorem by8_eq (x : Int) (k : Nat) : x / 2 ^ (8 * k) % 256 = Mm.by8 x k := by rw [Mm.pow8]; rfl

theorem lay_eq {w' : World} {D S off n N : Nat} {t : TypeId} {m : Nat → Int} {x : Int} (h : w'.rowIs D t S (fun i => .int .u8 (Mm.pt m off n (Mm.by8 (x % 256 ^ N)) i))) (hn : n ≤ N) :
    w'.rowIs D t S (fun i => .int .u8 (Mm.pt m off n (Mm.by8 x) i)) := by
  rw [Mm.pt_congr (g' := Mm.by8 x) (fun i hi => Mm.by8_mod x i N (by omega))] at h
  exact h

theorem IsMem.cell {t : TypeId} {w : World} {B D S : Nat} {m : Nat → Int} (h : IsMem t w B D S m) : w.cell? ⟨B, 0, none⟩ = some (.slice (some ⟨D, 0, none⟩) S S) := h.head.cell (i := 0) (by omega)

theorem info_u8 : (Try.prog.info? 5).map (fun i => (i.zero, i.size, i.bytes)) = some (some (.int .u8 0), 1, 1) := by kernel_rfl

theorem born (t : TypeId) (w : World) (S : Nat) : IsMem t ((w.alloc (.cells (madeCells #[.int .u8 0] S) 5)).alloc (.cells #[.slice (some ⟨w.heap.size, 0, none⟩) S S] t)) (w.heap.size + 1) w.heap.size S (fun _ => 0) ∧
    w.grownBy ((w.alloc (.cells (madeCells #[.int .u8 0] S) 5)).alloc (.cells #[.slice (some ⟨w.heap.size, 0, none⟩) S S] t)) none := by
  refine ⟨⟨?_, (World.rowIs_made w _ S _).alloc _, fun _ => by omega⟩, grown_trans (World.grownBy_alloc _ _ _) (World.grownBy_alloc _ _ _)⟩
  have := World.rowIs_alloc (w.alloc (.cells (madeCells #[.int .u8 0] S) 5)) #[.slice (some ⟨w.heap.size, 0, none⟩) S S] t (fun _ => .slice (some ⟨w.heap.size, 0, none⟩) S S)
    (fun i hi => by simp at hi; subst hi; rfl)
  simpa using this

namespace Mm
/-- do n bytes from a on lie in a memory of S bytes? -/
def hasB (S : Nat) (a n : Int) : Bool := decide (4096 ≤ a) && decide (a + n ≤ S)
/-- what Load, Store answer -/
def lE (S : Nat) (k a : Int) : Int := if Wd.wordB k then (if hasB S a (Wd.by' k) then 0 else 21) else 10
def lV (S : Nat) (m : Nat → Int) (k a : Int) : Int := if Wd.wordB k && hasB S a (Wd.by' k) then Wd.canon k (ld m a.toNat (Wd.by' k).toNat) else 0
def sE (S : Nat) (k a x : Int) : Int := if Wd.wordB k then (if Wd.isB k x then (if hasB S a (Wd.by' k) then 0 else 21) else 11) else 10
def sM (S : Nat) (m : Nat → Int) (k a x : Int) : Nat → Int := if Wd.wordB k && Wd.isB k x && hasB S a (Wd.by' k) then pt m a.toNat (Wd.by' k).toNat (by8 x) else m
theorem by_cases (k : Int) : (Wd.wordB k = false ∧ Wd.by' k = 0) ∨ (Wd.wordB k = true ∧ (Wd.by' k = 1 ∨ Wd.by' k = 2 ∨ Wd.by' k = 4 ∨ Wd.by' k = 8)) := by
  rcases Wd.kinds k with h | h | h | h | h | h | h | h | h | h | h | h
  all_goals first
    | (subst h; right; exact ⟨rfl, by decide⟩)
    | (left; constructor
       · unfold Wd.wordB; simp; omega
       · unfold Wd.by' Wd.wid; rw [if_neg (by omega), if_neg (by omega), if_neg (by omega), if_neg (by omega), if_neg (by omega)]; rfl)
theorem lE_no {S : Nat} {k a : Int} (h : Wd.wordB k = false) : lE S k a = 10 := by unfold lE; rw [h]; rfl
theorem lV_no {S : Nat} {m : Nat → Int} {k a : Int} (h : Wd.wordB k = false) : lV S m k a = 0 := by unfold lV; rw [h]; rfl
theorem lE_out {S : Nat} {k a : Int} (h : Wd.wordB k = true) (h2 : hasB S a (Wd.by' k) = false) : lE S k a = 21 := by unfold lE; rw [h, h2]; rfl
theorem lV_out {S : Nat} {m : Nat → Int} {k a : Int} (h2 : hasB S a (Wd.by' k) = false) : lV S m k a = 0 := by unfold lV; rw [h2, Bool.and_false]; rfl
theorem lE_in {S : Nat} {k a : Int} (h : Wd.wordB k = true) (h2 : hasB S a (Wd.by' k) = true) : lE S k a = 0 := by unfold lE; rw [h, h2]; rfl
theorem lV_in {S : Nat} {m : Nat → Int} {k a : Int} (h : Wd.wordB k = true) (h2 : hasB S a (Wd.by' k) = true) : lV S m k a = Wd.canon k (ld m a.toNat (Wd.by' k).toNat) := by unfold lV; rw [h, h2]; rfl
theorem sE_no {S : Nat} {k a x : Int} (h : Wd.wordB k = false) : sE S k a x = 10 := by unfold sE; rw [h]; rfl
theorem sM_no {S : Nat} {m : Nat → Int} {k a x : Int} (h : Wd.wordB k = false) : sM S m k a x = m := by unfold sM; rw [h]; rfl
theorem sE_form {S : Nat} {k a x : Int} (h : Wd.wordB k = true) (h1 : Wd.isB k x = false) : sE S k a x = 11 := by unfold sE; rw [h, h1]; rfl
theorem sM_form {S : Nat} {m : Nat → Int} {k a x : Int} (h1 : Wd.isB k x = false) : sM S m k a x = m := by unfold sM; rw [h1, Bool.and_false]; rfl
theorem sE_out {S : Nat} {k a x : Int} (h : Wd.wordB k = true) (h1 : Wd.isB k x = true) (h2 : hasB S a (Wd.by' k) = false) : sE S k a x = 21 := by unfold sE; rw [h, h1, h2]; rfl
theorem sM_out {S : Nat} {m : Nat → Int} {k a x : Int} (h2 : hasB S a (Wd.by' k) = false) : sM S m k a x = m := by unfold sM; rw [h2, Bool.and_false]; rfl
theorem sE_in {S : Nat} {k a x : Int} (h : Wd.wordB k = true) (h1 : Wd.isB k x = true) (h2 : hasB S a (Wd.by' k) = true) : sE S k a x = 0 := by unfold sE; rw [h, h1, h2]; rfl
theorem sM_in {S : Nat} {m : Nat → Int} {k a x : Int} (h : Wd.wordB k = true) (h1 : Wd.isB k x = true) (h2 : hasB S a (Wd.by' k) = true) : sM S m k a x = pt m a.toNat (Wd.by' k).toNat (by8 x) := by unfold sM; rw [h, h1, h2]; rfl
theorem has_in {S : Nat} {a n : Int} (h : hasB S a n = true) : 4096 ≤ a ∧ a + n ≤ S := by unfold hasB at h; simpa using h
theorem has_out {S : Nat} {a n : Int} (h : hasB S a n = false) : a < 4096 ∨ (S : Int) < a + n := by unfold hasB at h; simp at h; omega
theorem pow_le {n : Nat} (h : n = 1 ∨ n = 2 ∨ n = 4 ∨ n = 8) : (256 : Int) ^ n ≤ 18446744073709551616 := by rcases h with rfl | rfl | rfl | rfl <;> decide
end Mm

theorem row_cells {w : World} {D S a n : Nat} {m : Nat → Int} {t : TypeId} (h : w.rowIs D t S (fun i => .int .u8 (m i))) (hS : a + n ≤ S) : ∀ i, i < n → w.cell? ⟨D, a + i, none⟩ = some (.int .u8 ((fun i => m (a + i)) i)) :=
  fun i hi => h.cell (i := a + i) (by omega)

theorem tup2 {a a' : Value} {b b' : Value} (h1 : a = a') (h2 : b = b') : Ending.returned (.tuple #[a, b]) = .returned (.tuple #[a', b']) := by rw [h1, h2]

theorem IsMem.put {t : TypeId} {w w' : World} {B D S : Nat} {m m' : Nat → Int} (h : IsMem t w B D S m) (hg : w.grownBy w' (some D)) (ht : t ≠ 5) (hr : w'.rowIs D 5 S (fun i => .int .u8 (m' i))) (hf : Mm.Fit m') : IsMem t w' B D S m' := by
  refine ⟨h.head.of_block (hg.block B h.head.lt ?_), hr, hf⟩
  intro e
  injection e with e
  subst e
  obtain ⟨c, hc, _⟩ := h.head
  obtain ⟨d, hd, _⟩ := h.row
  rw [hc] at hd
  injection hd with hd
  injection hd with _ hd
  exact ht hd

theorem IsMem.apart {t : TypeId} {w : World} {B D S : Nat} {m : Nat → Int} (h : IsMem t w B D S m) (ht : t ≠ 5) : B ≠ D := by
  intro e
  subst e
  obtain ⟨c, hc, _⟩ := h.head
  obtain ⟨d, hd, _⟩ := h.row
  rw [hc] at hd
  injection hd with hd
  injection hd with _ hd
  exact ht hd

def bytesL (n : Nat) (g : Nat → Int) : List Value := (List.range n).map fun i => .int .u8 (g i)
theorem bytesL_len (n : Nat) (g : Nat → Int) : (bytesL n g).length = n := by simp [bytesL]
theorem bytesL_get {n : Nat} {g : Nat → Int} {j : Nat} {v : Value} (h : (bytesL n g)[j]? = some v) : j < n ∧ v = .int .u8 (g j) := by
  have hj : j < n := by
    rw [← bytesL_len n g]
    exact (List.getElem?_eq_some_iff.1 h).1
  refine ⟨hj, ?_⟩
  simp [bytesL, hj] at h
  exact h.symm
theorem bytesL_at {n : Nat} (g : Nat → Int) {j : Nat} (h : j < n) : (bytesL n g)[j]? = some (.int .u8 (g j)) := by simp [bytesL, h]
theorem bytesL_one (n : Nat) (g : Nat → Int) : ∀ v ∈ bytesL n g, v.oneCell' = true := by
  intro v hv
  obtain ⟨i, _, rfl⟩ := List.mem_map.1 hv
  rfl
theorem add_none (b off n : Nat) : (⟨b, off, none⟩ : Addr).add n = ⟨b, off + n, none⟩ := by
  unfold Addr.add; split <;> simp_all

/-- bytes that the call itself made -/
def OwnB (w : World) (base : Nat) (v : Value) (n : Nat) (g : Nat → Int) : Prop := w.ownsRow base 5 1 v n (bytesL n g)

theorem OwnB.kept {w w' : World} {base n : Nat} {v : Value} {g : Nat → Int} {row : Option Nat} (h : OwnB w base v n g) (hg : w.grownBy w' row) (hne : v.ownBlock = none ∨ v.ownBlock ≠ row) : OwnB w' base v n g := World.ownsRow.kept h hg hne
theorem OwnB.lt {w : World} {base n : Nat} {v : Value} {g : Nat → Int} (h : OwnB w base v n g) : ∀ k, v.ownBlock = some k → base ≤ k ∧ k < w.heap.size := World.ownsRow.lt h
theorem OwnB.shape {w : World} {base n : Nat} {v : Value} {g : Nat → Int} (h : OwnB w base v n g) : ∃ ao cap, v = .slice ao n cap ∧ (ao = none → n = 0 ∧ cap = 0) ∧ n ≤ cap ∧ cap ≤ maxLen ∧ Bs w ao n g := by
  obtain ⟨hl, h⟩ := h
  rcases h with ⟨rfl, rfl⟩ | ⟨b, cap, cur, rfl, hb, hh, hn, hc, hs, ht⟩
  · exact ⟨none, 0, rfl, fun _ => ⟨rfl, rfl⟩, Nat.le_refl _, by unfold maxLen; omega, .inl rfl⟩
  · refine ⟨some ⟨b, 0, none⟩, cap, rfl, (fun h => by cases h), hn, hc, .inr ⟨b, 0, rfl, fun i hi => ?_⟩⟩
    have h1 : (bytesL n g)[i]? = some (.int .u8 (g i)) := bytesL_at g hi
    rw [← ht, List.getElem?_take, if_pos (by omega)] at h1
    simp only [World.cell?, hh]
    simpa using h1

theorem info1 : (Try.prog.info? 5).map (·.size) = some 1 := by kernel_rfl

/-- copy of bytes into a row of the call's own -/
theorem run_copy_bytes {w : World} (D S off n dc b o' cap : Nat) (m g : Nat → Int) (hr : w.rowIs D 5 S (fun i => .int .u8 (m i))) (hfit : off + n ≤ S)
    (hc : ∀ i, i < n → w.cell? ⟨b, o' + i, none⟩ = some (.int .u8 (g i))) :
    ∃ w', (Builtin.copy_ #[29, 29] 3 #[.slice (some ⟨D, off, none⟩) n dc, .slice (some ⟨b, o', none⟩) n cap]).run Try.prog w = .ok (goInt n) w' ∧
      w'.rowIs D 5 S (fun i => .int .u8 (Mm.pt m off n g i)) ∧ w.grownBy w' (some D) := by
  obtain ⟨cur, hcur, hsz, hcc⟩ := hr
  have hrun := run_copy_row (P := Try.prog) w 29 29 3 5 D off n dc ⟨b, o', none⟩ n cap cur 5 (bytesL n g) Try.underlying29 info1 hcur (by rw [bytesL_len]; simp) (by
    intro j v hv
    obtain ⟨hj, rfl⟩ := bytesL_get hv
    rw [add_none]
    exact hc j hj) (by rw [bytesL_len]; omega) (bytesL_one n g)
  rw [bytesL_len] at hrun
  · refine ⟨_, hrun, ⟨_, setRow_heap w D _ _ _ _ hcur, ?_, ?_⟩, ⟨rfl, rfl, rfl, by simp [World.setRow], fun k hk hk2 => setRow_other w D k _ (fun e => hk2 (by rw [e]))⟩⟩
    · simp [bytesL_len]; omega
    · intro i hi
      have hci := hcc i hi
      simp only [List.getElem?_toArray, List.append_assoc]
      by_cases h1 : i < off
      · rw [List.getElem?_append_left (by simp; omega), List.getElem?_take, if_pos h1, Mm.pt_out (by omega)]
        simpa using hci
      · rw [List.getElem?_append_right (by simp; omega)]
        have hlen : (cur.toList.take off).length = off := by simp; omega
        rw [hlen]
        by_cases h2 : i < off + n
        · rw [List.getElem?_append_left (by rw [bytesL_len]; omega), bytesL_at g (by omega)]
          unfold Mm.pt; rw [if_pos (by omega)]
        · rw [List.getElem?_append_right (by rw [bytesL_len]; omega), bytesL_len, List.getElem?_drop, Mm.pt_out (by omega), show off + n + (i - off - n) = i by omega]
          simpa using hci

end Go.Proofs.Ytbpdggdpgohilaa
