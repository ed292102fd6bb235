/- Contracts and plain facts that the walks share. -/
import Derived.Test.YtpcgkggpmipiaaaGreatG1
import Derived.Deep.Slices
import Derived.OpenShut
import Derived.SizedLaws
namespace Go.Proofs.YtpcgkggpmipiaaaGreat
open Go.RowKit
set_option linter.unusedVariables false
def Fits {H : Type} (t : TypeId) (d : DataW H) : Prop := ∀ n ∈ d.weights Tryz.prog t, n ≤ reachBytes
theorem weights_all {H : Type} {e : TypeId} : ∀ {l : List (DataW H)} {d : DataW H}, d ∈ l → ∀ n ∈ d.weights Tryz.prog e, n ∈ DataW.weightsAll Tryz.prog e l
 | d0 :: l, d, hd, n, hn => by
  simp only [DataW.weightsAll, List.mem_append]
  rcases List.mem_cons.1 hd with rfl | h
  ·exact .inl hn
  ·exact .inr (weights_all h n hn)
theorem Fits.elem {H : Type} {t e : TypeId} {l r : List (DataW H)} {d : DataW H} (ht : Tryz.prog.underlying t = some (.slice e)) (h : Fits t (.slice l r)) (hd : d ∈ l) : Fits e d := fun n hn =>
 h n (by simp only [DataW.weights, ht, List.mem_cons, List.mem_append]; exact .inr (.inl (weights_all hd n hn)))
theorem Fits.field {H : Type} {t : TypeId} {fs : Array Field} {xs : List (DataW H × List MemPlace)} {q : List MemPlace} {x y : DataW H × List MemPlace} {i : Nat} {f : Field} (ht : Tryz.prog.underlying t = some (.struct fs)) (h : Fits t x.1) (hx : x = (.agg (xs.map (·.1)), q)) (hf : fs[i]? = some f) (hy : xs[i]? = some y) : Fits f.type y.1 := fun n hn =>
 h n (by
  subst hx
  simp only [DataW.weights, ht]
  exact DataW.weights_mem_each (j := i) (t := f.type) (d := y.1) (by simp [hf]) (by simp [hy]) n hn)
theorem addr_add (b off n : Nat) : (⟨b, off, none⟩ : Addr).add n = ⟨b, off + n, none⟩ := by simp [Addr.add]
theorem Fits.lenB {H : Type} {t e : TypeId} {l r : List (DataW H)} (ht : Tryz.prog.underlying t = some (.slice e)) (h : Fits t (.slice l r)) : l.length * Tryz.prog.bytesOf e ≤ reachBytes := by
 have := h ((l.length + r.length) * Tryz.prog.bytesOf e) (by simp [DataW.weights, ht])
 exact Nat.le_trans (Nat.mul_le_mul_right _ (Nat.le_add_right _ _)) this
end Go.Proofs.YtpcgkggpmipiaaaGreat
namespace Go.Proofs.YtpcgkggpmipiaaaGreat
set_option maxRecDepth 100000
set_option maxHeartbeats 32000000
open Go.RowKit
set_option linter.unusedVariables false
theorem open_rowL {α : Type} {t e : TypeId} {c by' : Nat} {H : Type} {enc : TypeId × Value → H} {W : World} {spare : Nat → Bool} {held : Bool} {fuel : Nat} {cs : List Value} {x : DataW H × List MemPlace} (Q : Nat → Nat → α → Prop)
  (ht : Tryz.prog.underlying t = some (.slice e)) (hc : Tryz.prog.cellsOf e = c) (c0 : 0 < c) (hby : Tryz.prog.bytesOf e = by') (hs : Fits t x.1)
  (each : ∀ n, n < fuel → ∀ (cs : List Value) (b o : Nat) (y : DataW H × List MemPlace), cs.length = c → b < W.heap.size → (∀ j v, cs[j]? = some v → W.cell? ⟨b, o + j, none⟩ = some v) → DataW.trod enc Tryz.prog W 0 spare held n e cs = some y → Fits e y.1 → ∃ z : α, Q b o z)
  (h : DataW.trod enc Tryz.prog W 0 spare held fuel t cs = some x) : ∃ a cap l, cs = [.slice a l.length cap] ∧ RowL c by' (· < W.heap.size) Q a cap l := by
 rcases DataW.trod_slice ht h with ⟨hcs, _⟩ | ⟨a', len, cap, elems, rest, n, hf, hcs, hxx, hb, hl, hm, hlen, hel, _, _⟩
 ·exact ⟨none, 0, [], hcs, fun _ => ⟨rfl, rfl⟩, Nat.le_refl _, Nat.zero_le _, by simp, .inl rfl⟩
 ·rw [hxx] at hs
  have hfl : len * by' ≤ reachBytes := by have := Fits.lenB ht hs; rw [hby] at this; simpa [hlen] using this
  by_cases h0 : len = 0
  ·subst h0
   exact ⟨_, cap, [], hcs, (fun h => by cases h), Nat.zero_le _, hm, by simp, .inl rfl⟩
  have get : ∀ i, i < len → ∃ cs' y, W.cells? 0 (a'.add (i * c)) c = some cs' ∧ DataW.trod enc Tryz.prog W 0 spare held n e cs' = some y ∧ y ∈ elems := by
   intro i hi
   have := hel i hi
   rw [List.getElem?_eq_getElem (by omega), hc] at this
   obtain ⟨cs', h1, h2⟩ := Option.bind_eq_some_iff.1 this
   exact ⟨cs', _, h1, h2, List.getElem_mem _⟩
  obtain ⟨b, off, spot⟩ := a'
  have h00 : spot = none ∧ b < W.heap.size := by
   obtain ⟨cs', y, h1, h2, _⟩ := get 0 (by omega)
   obtain ⟨_, hlen', hcell⟩ := World.cells?_some h1
   have k0 := hcell 0 (by omega)
   obtain ⟨v, hv⟩ : ∃ v, W.cell? ⟨b, off, spot⟩ = some v := by
    have : W.cell? ⟨b, off, spot⟩ = cs'[0]? := by simpa [Addr.add] using k0
    rw [List.getElem?_eq_getElem (by omega)] at this
    exact ⟨_, this⟩
   exact ⟨World.cell?_spot hv, World.block_lt_of_cell? _ _ hv⟩
  obtain ⟨rfl, hlt⟩ := h00
  have each' : ∀ i, i < len → ∃ z : α, Q b (off + i * c) z := by
   intro i hi
   obtain ⟨cs', y, h1, h2, h3⟩ := get i hi
   obtain ⟨_, hlen', hcell⟩ := World.cells?_some h1
   refine each n (by omega) cs' b (off + i * c) y hlen' hlt (fun j v hv => ?_) h2 (Fits.elem ht hs (List.mem_map.2 ⟨y, h3, rfl⟩))
   have hj : j < c := by rw [← hlen']; exact (List.getElem?_eq_some_iff.1 hv).1
   have k := hcell j hj
   rw [addr_add, addr_add] at k
   exact k.trans hv
  obtain ⟨z0, _⟩ := each' 0 (by omega)
  obtain ⟨f, hff⟩ : ∃ f : Nat → α, ∀ i, i < len → Q b (off + i * c) (f i) :=
   ⟨fun i => if hi : i < len then Classical.choose (each' i hi) else z0, fun i hi => by simp only [dif_pos hi]; exact Classical.choose_spec (each' i hi)⟩
  refine ⟨_, cap, (List.range len).map f, by simpa using hcs, (fun h => by cases h), by simpa using hl, hm, by simpa using hfl, .inr ⟨b, off, rfl, hlt, fun i x hx => ?_⟩⟩
  rw [List.getElem?_map] at hx
  obtain ⟨j, hj, rfl⟩ := Option.map_eq_some_iff.1 hx
  obtain ⟨hi, rfl⟩ : i < len ∧ i = j := by
   have h1 : i < len := by have := (List.getElem?_eq_some_iff.1 hj).1; simpa using this
   rw [List.getElem?_range h1] at hj
   exact ⟨h1, by simpa using hj⟩
  exact hff i hi
theorem open_numL {H : Type} {enc : TypeId × Value → H} {W : World} {spare : Nat → Bool} {held : Bool} {fuel : Nat} {cs : List Value} {x : DataW H × List MemPlace}
  (h : DataW.trod enc Tryz.prog W 0 spare held fuel 48 cs = some x) (hs : Fits 48 x.1) : ∃ a cap l, cs = [.slice a l.length cap] ∧ NumL (· < W.heap.size) W a cap l := by
 refine open_rowL (NumQ W) Tryz.underlying48 (c := 1) (by kernel_rfl) (by decide) (by kernel_rfl) hs (fun n hn cs b o y hl hb hc hy hz => ?_) h
 obtain ⟨z, e, _, f⟩ := DataW.trod_int Tryz.underlying3 hy
 subst e
 exact ⟨z, hc 0 _ rfl⟩
theorem open_exs {H : Type} {enc : TypeId × Value → H} {W : World} {spare : Nat → Bool} {held : Bool} (fuel : Nat) : ∀ {cs : List Value} {x : DataW H × List MemPlace}
  (h : DataW.trod enc Tryz.prog W 0 spare held fuel 43 cs = some x) (hs : Fits 43 x.1), ∃ a cap l, cs = [.slice a l.length cap] ∧ ExL (· < W.heap.size) W a cap l := by
 have k1 : Tryz.prog.cellsOf 3 = 1 := by kernel_rfl
 have k2 : Tryz.prog.cellsOf 2 = 1 := by kernel_rfl
 have k3 : Tryz.prog.cellsOf 9 = 1 := by kernel_rfl
 have k4 : Tryz.prog.cellsOf 43 = 1 := by kernel_rfl
 induction fuel using Nat.strongRecOn with
 | _ fuel ih =>
  intro cs x h hs
  refine open_rowL (ExAt (· < W.heap.size) W) Tryz.underlying43 (c := 5) (by kernel_rfl) (by decide) (by kernel_rfl) hs (fun n hn cs b o y hl hb hc hy hz => ?_) h
  obtain ⟨xs, kk, hk, hxy, _, hxl, hf⟩ := DataW.trod_struct Tryz.underlying45 hy
  match xs, hxl, cs, hl with
  | [z0, z1, z2, z3, z4], _, [v0, v1, v2, v3, v4], _ =>
   have g0 := hf 0 _ rfl
   have g1 := hf 1 _ rfl
   have g2 := hf 2 _ rfl
   have g3 := hf 3 _ rfl
   have g4 := hf 4 _ rfl
   simp [k1, k2, k3, k4] at g0 g1 g2 g3 g4
   obtain ⟨n0, e0, _⟩ := DataW.trod_int Tryz.underlying3 g0
   obtain ⟨n1, e1, _⟩ := DataW.trod_int Tryz.underlying3 g1
   obtain ⟨n2, e2, _, w2⟩ := DataW.trod_int Tryz.underlying2 g2
   obtain ⟨s3, e3, d3⟩ := DataW.trod_string Tryz.underlying9 g3
   have z3' := hz.field Tryz.underlying45 hxy (i := 3) rfl rfl
   have w3 : s3.size ≤ reachBytes := by
    have := z3' s3.size (by rw [d3.1]; simp [DataW.weights])
    exact this
   have w2 := bounds_i64 w2
   obtain ⟨a4, k4, l4, e4, f4⟩ := ih kk (by omega) g4 (hz.field Tryz.underlying45 hxy (i := 4) rfl rfl)
   simp at e0 e1 e2 e3 e4
   subst e0 e1 e2 e3 e4
   exact ⟨.mk n0 n1 n2 s3 l4, ExC.at (x := .mk n0 n1 n2 s3 l4) ⟨hc 0 _ rfl, hc 1 _ rfl, hc 2 _ rfl, hc 3 _ rfl, hc 4 _ rfl, by unfold R64; show _ ≤ n2 ∧ n2 ≤ _; omega, w3, f4⟩⟩
theorem open_sts {H : Type} {enc : TypeId × Value → H} {W : World} {spare : Nat → Bool} {held : Bool} (fuel : Nat) : ∀ {cs : List Value} {x : DataW H × List MemPlace}
  (h : DataW.trod enc Tryz.prog W 0 spare held fuel 49 cs = some x) (hs : Fits 49 x.1), ∃ a cap l, cs = [.slice a l.length cap] ∧ StL (· < W.heap.size) W a cap l := by
 have k1 : Tryz.prog.cellsOf 3 = 1 := by kernel_rfl
 have k2 : Tryz.prog.cellsOf 2 = 1 := by kernel_rfl
 have k3 : Tryz.prog.cellsOf 48 = 1 := by kernel_rfl
 have k4 : Tryz.prog.cellsOf 43 = 1 := by kernel_rfl
 have k5 : Tryz.prog.cellsOf 49 = 1 := by kernel_rfl
 induction fuel using Nat.strongRecOn with
 | _ fuel ih =>
  intro cs x h hs
  refine open_rowL (StAt (· < W.heap.size) W) Tryz.underlying49 (c := 6) (by kernel_rfl) (by decide) (by kernel_rfl) hs (fun n hn cs b o y hl hb hc hy hz => ?_) h
  obtain ⟨xs, kk, hk, hxy, _, hxl, hf⟩ := DataW.trod_struct Tryz.underlying51 hy
  match xs, hxl, cs, hl with
  | [z0, z1, z2, z3, z4, z5], _, [v0, v1, v2, v3, v4, v5], _ =>
   have g0 := hf 0 _ rfl
   have g1 := hf 1 _ rfl
   have g2 := hf 2 _ rfl
   have g3 := hf 3 _ rfl
   have g4 := hf 4 _ rfl
   have g5 := hf 5 _ rfl
   simp [k1, k2, k3, k4, k5] at g0 g1 g2 g3 g4 g5
   obtain ⟨n0, e0, _⟩ := DataW.trod_int Tryz.underlying3 g0
   obtain ⟨n1, e1, _, w1⟩ := DataW.trod_int Tryz.underlying2 g1
   have w1 := bounds_i64 w1
   obtain ⟨a2, c2, l2, e2, f2⟩ := open_exs kk g2 (hz.field Tryz.underlying51 hxy (i := 2) rfl rfl)
   obtain ⟨a3, c3, l3, e3, f3⟩ := open_numL g3 (hz.field Tryz.underlying51 hxy (i := 3) rfl rfl)
   obtain ⟨a4, c4, l4, e4, f4⟩ := ih kk (by omega) g4 (hz.field Tryz.underlying51 hxy (i := 4) rfl rfl)
   obtain ⟨a5, c5, l5, e5, f5⟩ := ih kk (by omega) g5 (hz.field Tryz.underlying51 hxy (i := 5) rfl rfl)
   simp at e0 e1 e2 e3 e4 e5
   subst e0 e1 e2 e3 e4 e5
   exact ⟨.mk n0 n1 l2 l3 l4 l5, StC.at (x := .mk n0 n1 l2 l3 l4 l5) ⟨hc 0 _ rfl, hc 1 _ rfl, hc 2 _ rfl, hc 3 _ rfl, hc 4 _ rfl, hc 5 _ rfl, by unfold R64; show _ ≤ n1 ∧ n1 ≤ _; omega, f2, f3, f4, f5⟩⟩
theorem open_tps {H : Type} {enc : TypeId × Value → H} {W : World} {spare : Nat → Bool} {held : Bool} {fuel : Nat} {cs : List Value} {x : DataW H × List MemPlace}
  (h : DataW.trod enc Tryz.prog W 0 spare held fuel 24 cs = some x) (hs : Fits 24 x.1) : ∃ a cap l, cs = [.slice a l.length cap] ∧ TpL (· < W.heap.size) W a cap l := by
 have k1 : Tryz.prog.cellsOf 3 = 1 := by kernel_rfl
 have k3 : Tryz.prog.cellsOf 48 = 1 := by kernel_rfl
 refine open_rowL (TpAt (· < W.heap.size) W) Tryz.underlying24 (c := 4) (by kernel_rfl) (by decide) (by kernel_rfl) hs (fun n hn cs b o y hl hb hc hy hz => ?_) h
 obtain ⟨xs, kk, hk, hxy, _, hxl, hf⟩ := DataW.trod_struct Tryz.underlying61 hy
 match xs, hxl, cs, hl with
 | [z0, z1, z2, z3], _, [v0, v1, v2, v3], _ =>
  have g0 := hf 0 _ rfl
  have g1 := hf 1 _ rfl
  have g2 := hf 2 _ rfl
  have g3 := hf 3 _ rfl
  simp [k1, k3] at g0 g1 g2 g3
  obtain ⟨n0, e0, _⟩ := DataW.trod_int Tryz.underlying3 g0
  obtain ⟨n1, e1, _⟩ := DataW.trod_int Tryz.underlying3 g1
  obtain ⟨n2, e2, _⟩ := DataW.trod_int Tryz.underlying3 g2
  obtain ⟨a3, c3, l3, e3, f3⟩ := open_numL g3 (hz.field Tryz.underlying61 hxy (i := 3) rfl rfl)
  simp at e0 e1 e2 e3
  subst e0 e1 e2 e3
  exact ⟨⟨n0, n1, n2, l3⟩, a3, c3, hc 0 _ rfl, hc 1 _ rfl, hc 2 _ rfl, hc 3 _ rfl, f3⟩
end Go.Proofs.YtpcgkggpmipiaaaGreat
