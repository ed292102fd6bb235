/- Contracts and plain facts that the walks share. -/
import Derived.Test.YtbpdggdpgohilaaG9
import Derived.Test.YtbpdggdpgohilaaG7
import Derived.Test.YtbpdggdpgohilaaG8
import Derived.Defers
import Derived.Recover
import Derived.BigQuiet
namespace Go.Proofs.Ytbpdggdpgohilaa
open Go.RowKit
set_option linter.unusedVariables false
set_option maxRecDepth 100000
set_option maxHeartbeats 8000000
/-- a value's block has it in its list -/
def Sa.Ls.inv (c : Sa.Cd) (s : Sa.Ls) : Prop := ∀ (n b : Nat), s.home n = (b : Int) → (n : Int) ∈ (c.b b).list
theorem Sa.lsIn_inv {c : Sa.Cd} {b : Nat} : ∀ {l : List Int} {i : Nat} {ph : Bool} {s : Sa.Ls}, (∀ x, x ∈ l → x ∈ (c.b b).list) → s.inv c → (Sa.lsIn c b l i ph s).2.inv c
  | [], _, _, _, _, h => h
  | n :: l, i, ph, s, hl, h => by
    rw [Sa.lsIn]
    split
    · rename_i hc
      refine Sa.lsIn_inv (fun x hx => hl x (List.mem_cons_of_mem _ hx)) fun k d hk => ?_
      simp only [Bool.and_eq_true] at hc
      have h0 := (Sa.isVal_iff.1 hc.1.1).1.1
      have hk : setF s.home n.toNat (b : Int) k = (d : Int) := hk
      unfold setF at hk
      split at hk
      · rename_i e
        have : b = d := by omega
        subst this
        rw [e, show ((n.toNat : Nat) : Int) = n by omega]
        exact hl n (List.mem_cons_self ..)
      · exact h k d hk
    · exact h
theorem Sa.lsAll_inv {c : Sa.Cd} : ∀ {j b : Nat} {s : Sa.Ls}, b + j = c.blocks.length → s.inv c → (Sa.lsAll c (c.blocks.drop b) b s).2.inv c
  | 0, b, s, hb, h => by rw [show b = c.blocks.length by omega, List.drop_length]; exact h
  | j + 1, b, s, hb, h => by
    have hk : b < c.blocks.length := by omega
    have he : c.b (b : Int) = c.blocks[b] := by unfold Sa.Cd.b; simp [List.getD_eq_getElem?_getD, hk]
    rw [Sa.lsAll_step hk]
    split
    · exact Sa.lsAll_inv (j := j) (by omega) (Sa.lsIn_inv (fun x hx => by rw [he]; exact hx) h)
    · exact h
theorem Sa.lists_inv (c : Sa.Cd) : (Sa.lists c).2.inv c := by
  have := Sa.lsAll_inv (c := c) (j := c.blocks.length) (b := 0) (s := Sa.ls0) (by omega) (fun n b h => by
    have h : (-1 : Int) = (b : Int) := h
    omega)
  rw [List.drop_zero] at this
  exact this
theorem Sa.beginIn_ne {c : Sa.Cd} : ∀ {l : List Int} {m : Int}, (∀ x, x ∈ l → 0 ≤ x) → m ≠ -1 → (Sa.beginIn c l m).2 ≠ -1
  | [], _, _, h => h
  | n :: l, m, hl, h => by
    rw [Sa.beginIn]
    split
    · first | exact h | (rw [if_neg h]; exact h)
    · exact Sa.beginIn_ne (fun x hx => hl x (List.mem_cons_of_mem _ hx)) h
theorem Sa.beginIn_has {c : Sa.Cd} : ∀ {l : List Int} {m : Int}, (∀ x, x ∈ l → 0 ≤ x) → (∃ x, x ∈ l ∧ (c.v x).op = 9) → (Sa.beginIn c l m).2 ≠ -1
  | [], _, _, ⟨_, hx, _⟩ => by simp at hx
  | n :: l, m, hl, ⟨x, hx, hop⟩ => by
    have hl2 : ∀ x, x ∈ l → 0 ≤ x := fun x hx => hl x (List.mem_cons_of_mem _ hx)
    have hn := hl n (List.mem_cons_self ..)
    rw [Sa.beginIn]
    split
    · split
      · exact Sa.beginIn_ne hl2 (by omega)
      · rename_i h; exact h
    · rename_i h
      rcases List.mem_cons.1 hx with e | e
      · subst e; exact absurd (.inl hop) h
      · exact Sa.beginIn_has hl2 ⟨x, e, hop⟩
theorem Sa.beginIn_rng {c : Sa.Cd} {P : Int → Prop} : ∀ {l : List Int} {m : Int}, (∀ x, x ∈ l → P x) → (m = -1 ∨ P m) → ((Sa.beginIn c l m).2 = -1 ∨ P (Sa.beginIn c l m).2)
  | [], _, _, h => h
  | n :: l, m, hl, h => by
    have hl2 : ∀ x, x ∈ l → P x := fun x hx => hl x (List.mem_cons_of_mem _ hx)
    rw [Sa.beginIn]
    split
    · split
      · exact Sa.beginIn_rng hl2 (.inr (hl n (List.mem_cons_self ..)))
      · exact h
    · exact Sa.beginIn_rng hl2 h
theorem Sa.chainIn_rng {c : Sa.Cd} {P : Int → Prop} : ∀ {l : List Int} {m : Int}, (∀ x, x ∈ l → P x) → P m → P (Sa.chainIn c l m).2
  | [], _, _, h => h
  | n :: l, m, hl, h => by
    have hl2 : ∀ x, x ∈ l → P x := fun x hx => hl x (List.mem_cons_of_mem _ hx)
    have hn := hl n (List.mem_cons_self ..)
    rw [Sa.chainIn]
    split
    · split
      · exact Sa.chainIn_rng hl2 h
      · exact h
    · split
      · split
        · exact Sa.chainIn_rng hl2 hn
        · exact h
      · exact Sa.chainIn_rng hl2 h
/-- what is known of a function's blocks ahead of the question for its memory -/
structure SaMb (c : Sa.Cd) (s : Sa.Ls) (t : Sa.Tr) : Prop where
  ord : ∀ x, x ∈ t.order → 0 ≤ x ∧ x < (c.blocks.length : Int)
  ab : ∀ b : Nat, b < c.blocks.length → b ≠ 0 → 0 ≤ t.above b ∧ t.above b < (c.blocks.length : Int)
  ini : ∃ x, x ∈ (c.b 0).list ∧ (c.v x).op = 9
  lst : ∀ b : Nat, b < c.blocks.length → ∀ x, x ∈ (c.b b).list → (0 ≤ x ∧ x < (c.values.length : Int)) ∧ (((c.v x).op = 8 ∨ (c.v x).op = 10 ∨ (c.v x).op = 11 ∨ (c.v x).op = 13 ∨ (c.v x).op = 14) → 0 < (c.v x).args.length)
  kd : ∀ b : Nat, b < c.blocks.length → ((c.b b).kind = 3 ∨ (c.b b).kind = 4) → 0 < (c.b b).args.length
  pr : ∀ b : Nat, b < c.blocks.length → ∀ x, x ∈ (c.b b).preds → 0 ≤ x ∧ x < (c.blocks.length : Int)
  ph : ∀ b : Nat, b < c.blocks.length → ∀ q : Nat, (c.v q).op = 6 → s.home q = b → (c.v q).args.length = (c.b b).preds.length
  v0 : 0 < c.values.length
/-- what stands in the rows of memories -/
def Sa.okRow (c : Sa.Cd) (f : Nat → Int) : Prop := ∀ i, 0 ≤ f i ∧ f i < (c.values.length : Int)
theorem Sa.okRow.set {c : Sa.Cd} {f : Nat → Int} (h : Sa.okRow c f) {x : Int} (hx : 0 ≤ x ∧ x < (c.values.length : Int)) (p : Nat) : Sa.okRow c (setF f p x) := fun i => by
  unfold setF
  split
  · exact hx
  · exact h i
theorem SaMb.begins {c : Sa.Cd} {s : Sa.Ls} {t : Sa.Tr} (h : SaMb c s t) {b : Nat} (hb : b < c.blocks.length) {en : Nat → Int} (he : Sa.okRow c en) (h1 : (Sa.begins c t b en).1 = true) : 0 ≤ (Sa.begins c t b en).2 ∧ (Sa.begins c t b en).2 < (c.values.length : Int) := by
  have hr := Sa.beginIn_rng (c := c) (P := fun x => 0 ≤ x ∧ x < (c.values.length : Int)) (l := (c.b b).list) (m := -1) (fun x hx => (h.lst b hb x hx).1) (.inl rfl)
  unfold Sa.begins at h1 ⊢
  cases h9 : (Sa.beginIn c (c.b b).list (-1)).1 with
  | false => simp [h9] at h1
  | true =>
    simp only [h9, if_true]
    by_cases e : (Sa.beginIn c (c.b b).list (-1)).2 = -1
    · rw [if_pos e]; exact he _
    · rw [if_neg e]; exact hr.resolve_left e
theorem SaMb.chain {c : Sa.Cd} {s : Sa.Ls} {t : Sa.Tr} (h : SaMb c s t) {b : Nat} (hb : b < c.blocks.length) {m : Int} (hm : 0 ≤ m ∧ m < (c.values.length : Int)) : 0 ≤ (Sa.chain c b m).2 ∧ (Sa.chain c b m).2 < (c.values.length : Int) := by
  have hr := Sa.chainIn_rng (c := c) (P := fun x => 0 ≤ x ∧ x < (c.values.length : Int)) (l := (c.b b).list) (m := m) (fun x hx => (h.lst b hb x hx).1) hm
  unfold Sa.chain
  simp only
  split
  · split
    · exact hr
    · exact hr
  · exact hr
theorem Sa.memIn_step {c : Sa.Cd} {t : Sa.Tr} {l : List Int} {k : Nat} {bg en : Nat → Int} (hk : k < l.length) : Sa.memIn c t (l.drop k) (bg, en) = (if (Sa.begins c t l[k] en).1 then (if (Sa.chain c l[k] (Sa.begins c t l[k] en).2).1 then Sa.memIn c t (l.drop (k + 1)) (setF bg (l[k]).toNat (Sa.begins c t l[k] en).2, setF en (l[k]).toNat (Sa.chain c l[k] (Sa.begins c t l[k] en).2).2) else (false, (setF bg (l[k]).toNat (Sa.begins c t l[k] en).2, en))) else (false, (bg, en))) := by
  rw [List.drop_eq_getElem_cons hk]
  rfl
end Go.Proofs.Ytbpdggdpgohilaa
namespace Go.Proofs.Ytbpdggdpgohilaa
open Go.RowKit
set_option linter.unusedVariables false
set_option maxRecDepth 100000
set_option maxHeartbeats 4000000
end Go.Proofs.Ytbpdggdpgohilaa
namespace Go.Proofs.Ytbpdggdpgohilaa
open Go.RowKit
set_option linter.unusedVariables false
set_option maxRecDepth 100000
set_option maxHeartbeats 8000000
theorem lu_valh {P : Program} {ops : Array Oper} {R G : World → World → Prop} {K0 : World → Prop} {u : Nat} {W : World} {Z : List PanicEntry → World → Prop} {F : Act → World → Prop} {L : List Sp} {hs : List (Nat × (World → Prop))} {bad : List Nat} {i : Nat} {o : Oper} {rest : List Oper} {A : Act} {x : Value} (hL : L[i]? = some (.val x)) (hw : Region.wanted o (yielded ops A.tmps) = true) (hd : dstOf ops i = o.dst ∧ o.dst.isSome = true)
    (hrf : ∀ w, G w w) (hGR : ∀ {w w' : World}, G w w' → R w w') (h : ∀ w, R W w → (∀ p, p ∈ hs → (depsOf ops i).contains p.1 = true → p.2 w) → (execOp A.eval o).run P w = .ok (.value x) w) (hr : lul P ops R G K0 u W Z F L hs bad (i + 1) rest (A.put o.dst x)) : lul P ops R G K0 u W Z F L hs bad i (o :: rest) A := by
  unfold lul
  rw [List.getD_eq_getElem?_getD, hL]
  exact ⟨fun w hk _ hh => by unfold lyStep; rw [if_pos hw, h w hk hh]; exact ⟨by rw [hd.1]; exact hd.2, Rof_G (fun h => hGR h) (hrf w), rfl⟩, by rw [hd.1]; exact hr⟩
theorem Sa.least_keeps : ∀ {f : Nat} {n known : Int} {s : Sa.Fo}, 0 ≤ known → (∀ j : Nat, s.up j < (j : Int)) → (∀ i : Nat, n < (i : Int) → (Sa.least f n known s).2.low i = s.low i ∧ (Sa.least f n known s).2.up i = s.up i) ∧ (∀ j : Nat, (Sa.least f n known s).2.up j < (j : Int))
  | 0, _, _, _, _, hs => ⟨fun _ _ => ⟨rfl, rfl⟩, hs⟩
  | f + 1, n, known, s, hk, hs => by
    rw [Sa.least]
    split
    · exact ⟨fun _ _ => ⟨rfl, rfl⟩, hs⟩
    · rename_i h1
      split
      · rename_i h2
        have h3 := hs n.toNat
        have ih := Sa.least_keeps (f := f) (n := s.up n.toNat) (known := known) (s := s) hk hs
        refine ⟨fun i hi => ?_, fun j => ?_⟩
        · have hne : i ≠ n.toNat := by omega
          simp only
          unfold setF
          rw [if_neg hne, if_neg hne]
          exact ih.1 i (by omega)
        · simp only
          unfold setF
          split
          · rename_i e
            have := ih.2 (s.up n.toNat).toNat
            omega
          · exact ih.2 j
      · exact ⟨fun _ _ => ⟨rfl, rfl⟩, hs⟩
theorem ownN_ne {w : World} {base T n c B : Nat} {g : Nat → Int} {t : TypeId} {l : List Value} (h : OwnN w base (.slice (some ⟨T, 0, none⟩) n c) n g) (hk : Bk w B t l) (ht : t ≠ 3) : B ≠ T := by
  rcases h.2 with ⟨h0, _⟩ | ⟨q, cap, cur, h0, _, hq, _⟩
  · cases h0
  · injection h0 with h1 _ _
    injection h1 with h1
    injection h1 with h1
    subst h1
    intro e
    subst e
    unfold Bk at hk
    rw [hk] at hq
    injection hq with hq
    injection hq with _ hq
    exact ht hq
theorem lu_newh {P : Program} {ops : Array Oper} {R G : World → World → Prop} {K0 : World → Prop} {u : Nat} {W : World} {Z : List PanicEntry → World → Prop} {F : Act → World → Prop} {L : List Sp} {hs : List (Nat × (World → Prop))} {bad : List Nat} {i : Nat} {o : Oper} {rest : List Oper} {A : Act} {Ψ : Value → World → Prop} (hL : L[i]? = some (.prop Ψ)) (hw : Region.wanted o (yielded ops A.tmps) = true) (hd : dstOf ops i = o.dst ∧ o.dst.isSome = true)
    (hst : ∀ v w w', Ψ v w → Rof G R u i w w' → Ψ v w') (h : ∀ w, R W w → (i = u → K0 w) → (∀ p, p ∈ hs → (depsOf ops i).contains p.1 = true → p.2 w) → ∃ v w', (execOp A.eval o).run P w = .ok (.value v) w' ∧ Rof R G u i w w' ∧ Ψ v w')
    (hr : ∀ v, lul P ops R G K0 u W Z F L ((i, Ψ v) :: hs) bad (i + 1) rest (A.put o.dst v)) : lul P ops R G K0 u W Z F L hs bad i (o :: rest) A := by
  unfold lul
  rw [List.getD_eq_getElem?_getD, hL]
  refine ⟨hst, fun w hk hu hh => ?_, fun v => by rw [hd.1]; exact hr v⟩
  obtain ⟨v, w', h1, h2, h3⟩ := h w hk hu hh
  unfold lyStep
  rw [if_pos hw, h1]
  exact ⟨by rw [hd.1]; exact hd.2, h2, h3⟩
theorem Rof_same {R : World → World → Prop} {u i : Nat} {w w' : World} (h : Rof R R u i w w') : R w w' := by unfold Rof at h; split at h <;> exact h
theorem Rof_of {R : World → World → Prop} {u i : Nat} {w w' : World} (h : R w w') : Rof R R u i w w' := by unfold Rof; split <;> exact h
theorem run_mk_op {o : Oper} {a : Act} {w : World} (l c : Operand) (hop : o.op = Op.makeSlice 24 l c) (n : Nat) (hn : (n : Int) ≤ 8796093022208) (hl : a.eval l = .int .i64 n) (hc : a.eval c = .int .i64 n) : ∃ w1, (execOp a.eval o).run Try.prog w = .ok (.value (.slice (some ⟨w.heap.size, 0, none⟩) n n)) w1 ∧ OwnN w1 w.heap.size (.slice (some ⟨w.heap.size, 0, none⟩) n n) n (fun _ => 0) ∧ w.grownBy w1 none := by
  obtain ⟨w', hrun, r1, r2⟩ := run_make_n w n hn
  exact ⟨w', by simp [execOp, hop, hl, hc, hrun, Result.andThen], r1, r2⟩
/-- what a walk's parts lie as, in every later world -/
structure WkF (bs : List Sa.Bl) (wk : Sa.Wk) (W : World) (N WB RB OB PB bb bo oc pc k : Nat) : Prop where
  c0 : W.cell? ⟨WB, 0, none⟩ = some (.slice (some ⟨bb, bo, none⟩) bs.length k)
  c1 : W.cell? ⟨WB, 1, none⟩ = some (.slice (some ⟨OB, 0, none⟩) wk.order.length oc)
  c2 : W.cell? ⟨WB, 2, none⟩ = some (.slice (some ⟨RB, 0, none⟩) bs.length bs.length)
  c3 : W.cell? ⟨WB, 3, none⟩ = some (.slice (some ⟨PB, 0, none⟩) wk.order.length pc)
  o : ∀ i, i < wk.order.length → W.cell? ⟨OB, i, none⟩ = some (.int .i64 (wk.order.getD i 0))
  r : ∀ i, i < bs.length → W.cell? ⟨RB, i, none⟩ = some (.int .i64 (wk.rank i))
  pz : OwnZ W N (.slice (some ⟨PB, 0, none⟩) wk.order.length pc) wk.parent
  b : ∀ i, i < bs.length → ∃ a1 a2 a3 a4 k1 k2 k3 k4, BlC (· < N) W bb (bo + i * 6) (bs.getD i Sa.bl0) a1 a2 a3 a4 k1 k2 k3 k4
theorem wkF {N : Nat} {bs : List Sa.Bl} {wk : Sa.Wk} (hO : Sa.WkO bs wk) {w : World} {a : Option Addr} {k WB RB : Nat} (hB : BlL (· < N) w a k bs) (hA : WkAt N w WB RB bs.length (.slice a bs.length k) wk) : ∃ OB PB bb bo oc pc, a = some ⟨bb, bo, none⟩ ∧ wk.order.length ≤ oc ∧ wk.order.length ≤ pc ∧ oc ≤ maxLen ∧ pc ≤ maxLen ∧ ∀ W, w.grownBy W none → WkF bs wk W N WB RB OB PB bb bo oc pc k := by
  obtain ⟨ov, pv, hL⟩ := hA
  obtain ⟨oa, oc, hov, ho1, ho2, ho3⟩ := hL.o.slice
  obtain ⟨pa, pc, hpv, hp1, hp2, hp3⟩ := hL.p.slice
  have hpl := hO.i.len
  obtain ⟨OB, e1, -, -⟩ := ho3 hO.o0.1
  obtain ⟨PB, e2, -, -⟩ := hp3 (by rw [← hpl]; exact hO.o0.1)
  have hn0 : 0 < bs.length := by have := hO.i.le; have := hO.o0.1; omega
  obtain ⟨bb, bo, -, -, -, -, -, -, -, -, e3, -, -⟩ := hB.num hn0
  subst e1 e2 e3
  rw [← hpl] at hpv hp1
  refine ⟨OB, PB, bb, bo, oc, pc, rfl, ho1, hp1, ho2, hp2, fun W g => ?_⟩
  have hL' := hL.grow g
  rw [hov, hpv] at hL'
  refine ⟨hL'.k.cell (i := 0) rfl, hL'.k.cell (i := 1) rfl, hL'.k.cell (i := 2) rfl, hL'.k.cell (i := 3) rfl, fun i hi => hL'.o.n.cell hi, fun i hi => hL'.r.cell hi, hL'.p, fun i hi => ?_⟩
  obtain ⟨b2, o2, a1, a2, a3, a4, k1, k2, k3, k4, he, -, hb⟩ := (hB.grow g).num hi
  injection he with he
  injection he with e1 e2
  subst e1 e2
  exact ⟨a1, a2, a3, a4, k1, k2, k3, k4, hb⟩
theorem Ch.fresh2 {w w1 w2 : World} {l : List Nat} (h1 : w.grownBy w1 none) (h2 : Ch w1 w2 l) (hl : ∀ q, q ∈ l → w.heap.size ≤ q) : w.grownBy w2 none := ((Ch.of (l := []) h1).newL h2 hl).nil (by simp)
namespace Sa
/-- .. as far as the first m blocks tell -/
def comesTo (bs : List Bl) (m s : Nat) : List Int := (List.range m).flatMap fun n => ((bs.getD n bl0).succs.filter (· == (s : Int))).map fun _ => (n : Int)
def comesIn (bs : List Bl) (i j s : Nat) : List Int := comesTo bs i s ++ (((bs.getD i bl0).succs.take j).filter (· == (s : Int))).map fun _ => (i : Int)
theorem comes_eq (bs : List Bl) (s : Nat) : comes bs s = comesTo bs bs.length s := rfl
theorem comesIn_zero (bs : List Bl) (i s : Nat) : comesIn bs i 0 s = comesTo bs i s := by unfold comesIn; simp
theorem comesTo_succ (bs : List Bl) (i s : Nat) : comesTo bs (i + 1) s = comesIn bs i (bs.getD i bl0).succs.length s := by
  unfold comesIn comesTo
  rw [List.range_succ, List.flatMap_append, List.take_length]
  simp
theorem comesIn_succ {bs : List Bl} {i j s q : Nat} (hj : j < (bs.getD i bl0).succs.length) (hq : (bs.getD i bl0).succs[j] = (q : Int)) : comesIn bs i (j + 1) s = if s = q then comesIn bs i j s ++ [(i : Int)] else comesIn bs i j s := by
  unfold comesIn
  rw [List.take_succ_eq_append_getElem hj, List.filter_append, List.map_append, hq]
  by_cases e : s = q
  · subst e; simp
  · rw [if_neg e]
    have : ((q : Int) == (s : Int)) = false := by simp; omega
    simp [this]
theorem comesTo_len {bs : List Bl} (h : ∀ b : Nat, (bs.getD b bl0).succs.length ≤ 2) (s : Nat) : ∀ m, (comesTo bs m s).length ≤ 2 * m
  | 0 => by unfold comesTo; simp
  | m + 1 => by
    rw [comesTo_succ]
    unfold comesIn
    rw [List.take_length, List.length_append, List.length_map]
    have h1 := comesTo_len h s m
    have h2 := List.length_filter_le (fun x : Int => x == (s : Int)) (bs.getD m bl0).succs
    have h3 := h m
    omega
theorem comesIn_len {bs : List Bl} (h : ∀ b : Nat, (bs.getD b bl0).succs.length ≤ 2) (i j s : Nat) : (comesIn bs i j s).length ≤ 2 * i + 2 := by
  unfold comesIn
  rw [List.length_append, List.length_map]
  have h1 := comesTo_len h s i
  have h2 := List.length_filter_le (fun x : Int => x == (s : Int)) ((bs.getD i bl0).succs.take j)
  have h3 := h i
  have h4 : ((bs.getD i bl0).succs.take j).length ≤ (bs.getD i bl0).succs.length := by rw [List.length_take]; omega
  omega
end Sa
def setV (vs : Nat → Value) (i : Nat) (v : Value) : Nat → Value := fun k => if k = i then v else vs k
def setL (L : Nat → List Int) (i : Nat) (l : List Int) : Nat → List Int := fun k => if k = i then l else L k
theorem map_setV {n : Nat} {vs : Nat → Value} {i : Nat} {v : Value} : ((List.range n).map vs).set i v = (List.range n).map (setV vs i v) := by
  refine List.ext_getElem (by simp) fun k h1 h2 => ?_
  simp at h1
  simp [setV, List.getElem_set]
  by_cases e : k = i
  · subst e; simp
  · simp [e, Ne.symm e]
/-- rows of the call's own, in a row of its own -/
structure FrAt (N : Nat) (W : World) (FB n : Nat) (L : Nat → List Int) (vs : Nat → Value) : Prop where
  k : Bk W FB 24 ((List.range n).map vs)
  lo : N ≤ FB
  o : ∀ i, i < n → OwnZ W N (vs i) (L i)
  d : ∀ i j, i < n → j < n → i ≠ j → ∀ q, (vs i).ownBlock = some q → (vs j).ownBlock ≠ some q
  e : ∀ i, i < n → (vs i).ownBlock ≠ some FB
theorem FrAt.grow {N : Nat} {W W' : World} {FB n : Nat} {L : Nat → List Int} {vs : Nat → Value} (h : FrAt N W FB n L vs) (g : W.grownBy W' none) : FrAt N W' FB n L vs := ⟨h.k.grow g, h.lo, fun i hi => (h.o i hi).grow g, h.d, h.e⟩
theorem FrAt.congr {N : Nat} {W : World} {FB n : Nat} {L L' : Nat → List Int} {vs : Nat → Value} (h : FrAt N W FB n L vs) (e : ∀ i, i < n → L i = L' i) : FrAt N W FB n L' vs := ⟨h.k, h.lo, fun i hi => by rw [← e i hi]; exact h.o i hi, h.d, h.e⟩
theorem FrAt.cell {N : Nat} {W : World} {FB n : Nat} {L : Nat → List Int} {vs : Nat → Value} (h : FrAt N W FB n L vs) {i : Nat} (hi : i < n) : W.cell? ⟨FB, i, none⟩ = some (vs i) := h.k.cell (by simp [hi])
theorem FrAt.put {N : Nat} {W W' : World} {FB n : Nat} {L : Nat → List Int} {vs : Nat → Value} (h : FrAt N W FB n L vs) {q : Nat} (hq : q < n) {v : Value} {l : List Int} (ho : OwnZ W' N v l) (g : W.grownBy W' (vs q).ownBlock) (hb : ∀ b, v.ownBlock = some b → (vs q).ownBlock = some b ∨ W.heap.size ≤ b) : FrAt N (W'.setCell ⟨FB, q, none⟩ v) FB n (setL L q l) (setV vs q v) ∧ Below N W (W'.setCell ⟨FB, q, none⟩ v) := by
  have hFl := h.k.lt
  have hC : Ch W W' (vs q).ownBlock.toList := grown_ch g (by intro b hb; simp [hb])
  have hS : Ch W' (W'.setCell ⟨FB, q, none⟩ v) [FB] := Ch.one (grown_set _ _ _ _) (by simp)
  have hvF : v.ownBlock ≠ some FB := fun e => by
    rcases hb FB e with h1 | h1
    · exact h.e q hq h1
    · omega
  refine ⟨⟨?_, h.lo, fun i hi => ?_, fun i j hi hj hij b h1 h2 => ?_, fun i hi => ?_⟩, ?_⟩
  · rw [← map_setV]
    exact (h.k.ch hC (by simpa using h.e q hq)).set q v
  · unfold setL setV
    by_cases e : i = q
    · subst e
      rw [if_pos rfl, if_pos rfl]
      exact ho.ch hS (fun b hb' => by intro hm; simp at hm; subst hm; exact hvF hb')
    · rw [if_neg e, if_neg e]
      exact ((h.o i hi).ch hC (fun b hb' => by have := h.d i q hi hq e b hb'; simpa using this)).ch hS (fun b hb' => by intro hm; simp at hm; subst hm; exact h.e i hi hb')
  · unfold setV at h1 h2
    by_cases e1 : i = q
    · rw [if_pos e1] at h1
      rw [if_neg (by omega)] at h2
      rcases hb b h1 with h3 | h3
      · exact h.d q j hq hj (by omega) b h3 h2
      · have := (h.o j hj).lt b h2; omega
    · rw [if_neg e1] at h1
      by_cases e2 : j = q
      · rw [if_pos e2] at h2
        rcases hb b h2 with h3 | h3
        · exact h.d i q hi hq e1 b h1 h3
        · have := (h.o i hi).lt b h1; omega
      · rw [if_neg e2] at h2
        exact h.d i j hi hj hij b h1 h2
  · unfold setV
    by_cases e : i = q
    · rw [if_pos e]; exact hvF
    · rw [if_neg e]; exact h.e i hi
  · have h0 := h.lo
    have h1 : Below N W W' := hC.below (by omega) (fun b hb' => by simp at hb'; exact (h.o q hq).base b hb')
    exact h1.trans (hS.below (by have := hC.size; omega) (by simp; exact h0))
theorem info_sl : (Try.prog.info? 24).map (fun i => (i.zero, i.size, i.bytes)) = some (some (.slice none 0 0), 1, 24) := by kernel_rfl
theorem run_make_r (w : World) (n : Nat) (hn : (n : Int) ≤ 1000000) : ∃ w1, (Instr.makeSlice 88 (.int .i64 n) (.int .i64 n)).run Try.prog w = .ok (.slice (some ⟨w.heap.size, 0, none⟩) n n) w1 ∧ Bk w1 w.heap.size 24 ((List.range n).map fun _ => .slice none 0 0) ∧ w.grownBy w1 none := by
  obtain ⟨i, hi, hz0, hz1, hz2⟩ := info_parts info_sl
  have := run_make (P := Try.prog) w 88 24 i (.slice none 0 0) Try.underlying88 hi hz0 .i64 .i64 n n (by omega) (by omega) (by rw [hz2]; omega) (by omega)
  rw [hz1] at this
  simp only [Int.toNat_natCast, Nat.mul_one] at this
  refine ⟨_, this, ?_, World.grownBy_alloc _ _ _⟩
  have e : madeCells (Value.slice none 0 0).cells n = ((List.range n).map fun _ => Value.slice none 0 0).toArray := by
    apply Array.ext
    · simp [madeCells]
    · intro k h1 h2
      simp [madeCells, Value.cells, Nat.mod_one]
  rw [e]
  exact Bk.new w _ _
theorem wp_mkr {ops : Array Oper} {rest : List Oper} {o : Oper} {a : Act} {Q : Exit → Act → World → Prop} {W : World} (hg : o.guard = none) (l c : Operand) (hop : o.op = Op.makeSlice 88 l c) (n : Nat) (hn : (n : Int) ≤ 1000000) (hl : a.eval l = .int .i64 n) (hc : a.eval c = .int .i64 n)
    (h : ∀ w1, Bk w1 W.heap.size 24 ((List.range n).map fun _ => .slice none 0 0) → W.grownBy w1 none → wpList Try.prog ops Q rest (a.put o.dst (.slice (some ⟨W.heap.size, 0, none⟩) n n)) w1) : wpList Try.prog ops Q (o :: rest) a W := by
  refine wpList_plain hg fun K hK' => ?_
  obtain ⟨w', hrun, r1, r2⟩ := run_make_r W n hn
  unfold Oper.wp
  simp [execOp, hop, hl, hc, hrun, Result.andThen]
  exact hK' _ _ (h w' r1 r2)
theorem wp_appZ1 {ops : Array Oper} {rest : List Oper} {o : Oper} {a : Act} {Q : Exit → Act → World → Prop} {W : World} (hgd : o.guard = none) (s x : Operand)
    (ho : o.op = .call { callee := .builtin .append, args := #[s, x], argTypes := #[24, 24] }) (base : Nat) (v : Value) (l : List Int) (X : Int) (hs : a.eval s = v) (hown : OwnZ W base v l)
    {nb : Nat} (hx : a.eval x = .slice (some ⟨nb, 0, none⟩) 1 1) (hnb : nb = W.heap.size) (hl : l.length ≤ 2000000) (hb : base ≤ W.heap.size)
    (h : ∀ v' w', OwnZ w' base v' (l ++ [X]) → W.grownBy w' v.ownBlock → (∀ q, v'.ownBlock = some q → v.ownBlock = some q ∨ W.heap.size ≤ q) → wpList Try.prog ops Q rest (a.put o.dst v') w') : wpList Try.prog ops Q (o :: rest) a (W.alloc (Obj.cells #[.int .i64 X] 3)) := by
  obtain ⟨i, hi, hz0, hz1, hz2⟩ := info_parts info_int
  refine wpList_app_one (P := Try.prog) W hgd s x 24 ho base 3 i _ 1 8 Try.underlying24 hi hz0 hz1 hz2 rfl (by decide) v l.length _ hs hown [.int .i64 X] hx hnb rfl (by intro u hu; simp at hu; subst hu; rfl) (by unfold maxLen; omega) (by omega) hb ?_
  intro v' w' h1 h2 h3
  refine h v' w' ?_ h2 h3
  unfold OwnZ
  rw [List.length_append, List.map_append]
  exact h1
theorem saComings_any {NN : Nat} {bs : List Sa.Bl} {w : World} {a : Option Addr} {k : Nat} (hN : NN ≤ w.heap.size) (h : BlL (· < NN) w a k bs) (hsd : Sa.Leads bs) (hs2 : ∀ b : Nat, (bs.getD b Sa.bl0).succs.length ≤ 2) (hble : bs.length ≤ 4096) : Calls Try.prog 49 #[.slice a bs.length k] w fun r w' => ∃ FB vs, r = .returned (.slice (some ⟨FB, 0, none⟩) bs.length bs.length) ∧ FrAt w.heap.size w' FB bs.length (Sa.comes bs) vs ∧ w.grownBy w' none := by
  obtain ⟨N, hNe⟩ : ∃ N, N = w.heap.size := ⟨_, rfl⟩
  have HN : Hid (N = w.heap.size) := hNe
  have HBL : Hid (∀ W, Below N w W → BlL (· < N) W a k bs) := fun W g => BlL.below (by rw [hNe]; exact h.wide hN) g
  have hn9 : (bs.length : Int) ≤ 1000000 := by omega
  have hblI : (bs.length : Int) ≤ 4096 := by omega
  rw [← hNe]
  clear h hN hNe
  go_enter Try.func49, Try.ntmps49
  go_wp2_with (at_make; refine wp_mkr rfl (.tmp 9) (.tmp 9) rfl bs.length hn9 rfl rfl ?_; intro w1 hk1 hg1; have HK1 : Hid (Bk w1 w.heap.size 24 ((List.range bs.length).map fun _ => .slice none 0 0)) := hk1; have HG1 : Hid (w.grownBy w1 none) := hg1; clear hk1 hg1)
  have HA1 : Hid (FrAt N w1 w.heap.size bs.length (fun s => Sa.comesTo bs 0 s) (fun _ => .slice none 0 0)) := ⟨HK1.out, by rw [HN.out]; exact Nat.le_refl _, fun i hi => World.ownsRow_nil _ _ _ _, fun i j hi hj hij q hq => by simp [Value.ownBlock] at hq, fun i hi => by simp [Value.ownBlock]⟩
  obtain ⟨FB, hFB⟩ : ∃ FB, FB = w.heap.size := ⟨_, rfl⟩
  rw [← hFB] at HA1 ⊢
  have HB1 : Hid (Below N w w1) := ⟨HG1.out.os, HG1.out.tape, HG1.out.output, HG1.out.size, fun q hq => HG1.out.block q (by have := HN.out; omega) (by simp)⟩
  have HFN : Hid (N ≤ w1.heap.size) := by have := HN.out; have := HG1.out.size; show N ≤ _; omega
  clear HK1 HG1 hFB
  go_loopw [13] (fun ix wr => ∃ (i : Nat) (vs : Nat → Value), ix = .int .i64 i ∧ i ≤ bs.length ∧ FrAt N wr FB bs.length (fun s => Sa.comesTo bs i s) vs ∧ Below N w wr) (fun ix _ => bs.length - (intOf ix).toNat)
  case atStart => exact ⟨0, _, rfl, Nat.zero_le _, HA1.out, HB1.out⟩
  case round =>
    obtain ⟨i, vs, rfl, hi, hA, hB⟩ := hrel
    have HA : Hid (FrAt N wr FB bs.length (fun s => Sa.comesTo bs i s) vs) := hA
    have HB : Hid (Below N w wr) := hB
    clear hA hB HA1 HB1
    by_cases hil : i < bs.length
    case neg =>
      obtain rfl : i = bs.length := by omega
      clear HFN
      go_wp2
      go_ret
      exact ⟨FB, vs, rfl, HA.out, belowNone (by rw [← HN.out]; exact HB.out)⟩
    have hilI : (i : Int) < bs.length := by omega
    obtain ⟨bb, bo, a1, a2, a3, a4, k1, k2, k3, k4, rfl, hbB, hbl⟩ := (HBL.out wr HB.out).num hil
    obtain ⟨x, hx⟩ : ∃ x, x = bs.getD i Sa.bl0 := ⟨_, rfl⟩
    rw [← hx] at hbl
    have HSu : Hid (∀ y, y ∈ x.succs → 0 ≤ y ∧ y < (bs.length : Int)) := by have := hsd i hil; rw [← hx] at this; exact this
    have HX : Hid (x = bs.getD i Sa.bl0) := hx
    have c0 := hbl.c0
    have c1 := hbl.c1
    have c2 := hbl.c2
    have c3 := hbl.c3
    have c4 := hbl.c4
    have c5 := hbl.c5
    have hle := hbl.succs.le
    have hmx := hbl.succs.max
    unfold maxLen at hmx
    have HBl : Hid (NumL (· < N) wr a3 k3 x.succs) := hbl.succs
    clear hbl hx
    go_wp2_with fail
    obtain ⟨wo, hwo⟩ : ∃ wo, wo = wr.alloc (Obj.cells #[.int .i64 x.kind, .int .i64 x.n, .slice a1 x.args.length k1, .slice a2 x.preds.length k2, .slice a3 x.succs.length k3, .slice a4 x.list.length k4] 41) := ⟨_, rfl⟩
    have hg5 : wr.grownBy wo none := by rw [hwo]; exact World.grownBy_alloc _ _ _
    have HAo : Hid (FrAt N wo FB bs.length (fun s => Sa.comesTo bs i s) vs) := HA.out.grow hg5
    have HBo : Hid (Below N w wo) := HB.out.trans ⟨hg5.os, hg5.tape, hg5.output, hg5.size, fun q hq => hg5.block q (by have := HA.out.lo; have := HA.out.k.lt; omega) (by simp)⟩
    have HNo : Hid (NumL (· < N) wo a3 k3 x.succs) := NumL.grow1 HBl.out hg5
    rw [← hwo]
    clear HA HB HBl hwo hg5 c0 c1 c2 c3 c4 c5
    obtain ⟨wr0, rfl⟩ : ∃ wr0, wr0 = wr := ⟨_, rfl⟩
    go_loopw [21] (fun jx wr => ∃ (j : Nat) (us : Nat → Value), jx = .int .i64 j ∧ j ≤ x.succs.length ∧ FrAt N wr FB bs.length (fun s => Sa.comesIn bs i j s) us ∧ Below N wo wr) (fun jx _ => x.succs.length - (intOf jx).toNat)
    case atStart => exact ⟨0, vs, rfl, Nat.zero_le _, HAo.out.congr (fun s _ => (Sa.comesIn_zero bs i s).symm), Below.refl _ _⟩
    case round =>
      obtain ⟨j, us, rfl, hj, hA, hB⟩ := hrel
      have HA : Hid (FrAt N wr FB bs.length (fun s => Sa.comesIn bs i j s) us) := hA
      have HB : Hid (Below N wo wr) := hB
      clear hA hB HAo
      by_cases hjl : j < x.succs.length
      case neg =>
        obtain rfl : j = x.succs.length := by omega
        clear HNo
        go_wp2
        go_roundw
        case rel => exact ⟨i + 1, us, by go_num, by omega, HA.out.congr (fun s _ => by rw [Sa.comesTo_succ, ← HX.out]), HBo.out.trans HB.out⟩
        case measure => simp [intOf]; omega
      have hjlI : (j : Int) < x.succs.length := by omega
      obtain ⟨sb, so, rfl, _, hz⟩ := (NumL.ch HNo.out (Ch.ofBelow HB.out) (fun q hq hm => by have := (List.mem_range'_1.1 hm).1; omega) (fun _ h => h) : NumL (· < N) wr _ k3 x.succs).at hjl
      unfold NumQ at hz
      rw [Nat.mul_one] at hz
      obtain ⟨q0, q1⟩ := HSu.out _ (List.getElem_mem hjl)
      obtain ⟨q, hq⟩ : ∃ q : Nat, x.succs[j] = (q : Int) := ⟨(x.succs[j]).toNat, by omega⟩
      have hql : q < bs.length := by omega
      have hqI : (q : Int) < (bs.length : Int) := by omega
      have HSt : Hid (∀ s, Sa.comesIn bs i (j + 1) s = setL (fun s => Sa.comesIn bs i j s) q (Sa.comesIn bs i j q ++ [(i : Int)]) s) := fun s => by
        rw [Sa.comesIn_succ (q := q) (by rw [← HX.out]; exact hjl) (by simp only [← HX.out]; exact hq)]
        unfold setL
        by_cases e : s = q
        · rw [if_pos e, if_pos e, e]
        · rw [if_neg e, if_neg e]
      rw [hq] at hz
      have hO := HA.out.o q hql
      have cV := HA.out.cell hql
      obtain ⟨va, vc, hv, _⟩ := hO.slice
      have hlc : (Sa.comesIn bs i j q).length ≤ 2000000 := by have := Sa.comesIn_len hs2 i j q; omega
      have hNw : N ≤ wr.heap.size := by have := HA.out.lo; have := HA.out.k.lt; omega
      have HO : Hid (OwnZ wr N (us q) (Sa.comesIn bs i j q)) := hO
      obtain ⟨cl, hcl⟩ : ∃ cl, cl = Sa.comesIn bs i j q := ⟨_, rfl⟩
      rw [← hcl] at hv hlc HO HSt
      rw [hv] at cV
      have HV : Hid (us q = .slice va cl.length vc) := hv
      clear hO hq q0 q1 hcl hv
      go_wp2_with (at_builtin; refine wp_appZ1 rfl (.tmp 30) (.tmp 32) rfl N (us q) cl i (by rw [HV.out]; rfl) HO.out rfl rfl hlc hNw ?_; intro v9 w9 ho9 hg9 hb9; obtain ⟨hF9, hB9⟩ := HA.out.put hql ho9 hg9 hb9; have HF9 : Hid (FrAt N (w9.setCell ⟨FB, q, none⟩ v9) FB bs.length (setL (fun s => Sa.comesIn bs i j s) q (cl ++ [(i : Int)])) (setV us q v9)) := hF9; have HB9 : Hid (Below N wr (w9.setCell ⟨FB, q, none⟩ v9)) := hB9; obtain ⟨va9, vc9, rfl, _⟩ := ho9.slice; have hCq : Ch wr w9 (us q).ownBlock.toList := grown_ch hg9 (by intro b hb; simp [hb]); have hk9 := HA.out.k.ch hCq (by simpa using HA.out.e q hql); have c9 := hk9.cell (i := q) (v := us q) (by simp [hql]); have f9 := hk9.frozen q; rw [List.length_append, List.length_singleton] at HF9 HB9; clear ho9 hg9 hb9 hF9 hB9 hCq hk9)
      go_roundw
      case rel => exact ⟨j + 1, setV us q _, by go_num, by omega, HF9.out.congr (fun s _ => (HSt.out s).symm), HB.out.trans HB9.out⟩
      case measure => simp [intOf]; omega
/-- a set of blocks that are come to, as it lies -/
structure FsL (N : Nat) (W : World) (SB RB n : Nat) (s : Sa.Wk) (mv : Value) (g : Nat → Int) : Prop where
  k : Bk W SB 67 [mv, .slice (some ⟨RB, 0, none⟩) n n]
  lo : N ≤ SB
  o : OwnZ W N mv s.order
  r : OwnN W N (.slice (some ⟨RB, 0, none⟩) n n) n g
  a : ∀ q, mv.ownBlock = some q → q ≠ RB
  pl : ∀ b : Nat, b < n → 0 ≤ g b ∧ (s.rank b ≠ -1 → g b = s.rank b)
theorem FsL.grow {N : Nat} {W W' : World} {SB RB n : Nat} {s : Sa.Wk} {mv : Value} {r : Nat → Int} (h : FsL N W SB RB n s mv r) (g : W.grownBy W' none) : FsL N W' SB RB n s mv r := ⟨h.k.grow g, h.lo, h.o.grow g, h.r.grow g, h.a, h.pl⟩
theorem flHas_any {N : Nat} {W : World} {SB RB n : Nat} {s : Sa.Wk} {mv : Value} {r : Nat → Int} (h : FsL N W SB RB n s mv r) (hI : Sa.WkI n s) {b : Nat} (hb : b < n) : Calls Try.prog 42 #[.pointer (some ⟨SB, 0, none⟩), .int .i64 (b : Int)] W fun e w' => e = .returned (.bool (decide (s.rank b ≠ -1))) ∧ W.grownBy w' none := by
  obtain ⟨ma, mc, hmv, hm1, hm2, hm3⟩ := h.o.slice
  obtain ⟨hp0, hp1⟩ := h.pl b hb
  obtain ⟨p, hp⟩ : ∃ p : Nat, r b = (p : Int) := ⟨(r b).toNat, by omega⟩
  obtain ⟨m, hm⟩ : ∃ m, m = s.order.length := ⟨_, rfl⟩
  have HM : Hid (m = s.order.length) := hm
  have hx0 := h.k.cell (i := 0) rfl
  have hx1 := h.k.cell (i := 1) rfl
  have cR := h.r.cell hb
  rw [hmv, ← hm] at hx0
  rw [hp] at cR
  rw [← hm] at hm1 hm3
  unfold maxLen at hm2
  have hbn : (b : Int) < (n : Int) := by omega
  have hrn := h.r.slice
  by_cases hpm : p < m
  · obtain ⟨T, rfl, hT⟩ := hm3 (by omega)
    have hcell : W.cell? ⟨T, p, none⟩ = some (.int .i64 (s.order.getD p 0)) := by
      have h9 := h.o
      rw [hmv] at h9
      exact h9.n.cell (i := p) (by rw [← hm]; exact hpm)
    obtain ⟨x, hx⟩ : ∃ x, x = s.order.getD p 0 := ⟨_, rfl⟩
    have hres : (x == (b : Int)) = decide (s.rank b ≠ -1) := by
      rw [hx, Bool.eq_iff_iff, beq_iff_eq, decide_eq_true_eq]
      constructor
      · intro e
        obtain ⟨q, hq, e1, e2⟩ := hI.ord p (by rw [← hm]; exact hpm)
        rw [e1] at e
        have : q = b := by omega
        subst this
        rw [e2]; omega
      · intro e
        rcases hI.rk b hb with h1 | ⟨j, hj, h1, h2⟩
        · exact absurd h1 e
        · have h3 := hp1 e
          rw [hp, h1] at h3
          have : p = j := by omega
          rw [this]; exact h2
    rw [← hx] at hcell
    have HRs : Hid ((x == (b : Int)) = decide (s.rank b ≠ -1)) := hres
    have c1 : (p : Int) < (m : Int) := by omega
    obtain ⟨R, hR⟩ : ∃ R, R = decide (s.rank b ≠ -1) := ⟨_, rfl⟩
    rw [← hR] at HRs ⊢
    have HG : Hid (∀ d, W.grownBy (W.drewN d) none) := fun d => grown_drewN (World.grownBy.refl _ none) d
    clear h hI hp0 hp1 hp hm hmv hx hres hR hrn
    go_enter Try.func42, Try.ntmps42
    go_wp2_with fail
    refine bodyPost_ret (by simp [results, Try.results42, go_sem]; try rfl) rfl ?_
    exact ⟨by rw [HRs.out], World.grownBy.refl _ _⟩
  · have hres : decide (s.rank b ≠ -1) = false := by
      rw [decide_eq_false_iff_not]
      intro e
      rcases hI.rk b hb with h1 | ⟨j, hj, h1, h2⟩
      · exact e h1
      · have h3 := hp1 e
        rw [hp, h1] at h3
        omega
    rw [hres]
    have c1 : ¬ (p : Int) < (m : Int) := by omega
    have c2 : decide ((p : Int) < (m : Int)) = false := decide_eq_false c1
    clear h hI hp0 hp1 hp hm hmv hres hrn
    go_enter Try.func42, Try.ntmps42
    go_wp2_with fail
    refine bodyPost_ret (by simp [results, Try.results42, go_sem]; try rfl) rfl ?_
    exact ⟨rfl, World.grownBy.refl _ _⟩
/-- what adding leaves -/
structure FsTo (N : Nat) (W w' : World) (SB RB n : Nat) (s : Sa.Wk) (mv mv' : Value) (r' : Nat → Int) : Prop where
  a : FsL N w' SB RB n s mv' r'
  c : Ch W w' (SB :: RB :: mv.ownBlock.toList)
  n : ∀ q, mv'.ownBlock = some q → mv.ownBlock = some q ∨ W.heap.size ≤ q
theorem flAdd_any {N : Nat} {W : World} {SB RB n : Nat} {s : Sa.Wk} {mv : Value} {r : Nat → Int} (hN : N ≤ W.heap.size) (hn9 : n ≤ 4096) (h : FsL N W SB RB n s mv r) (hI : Sa.WkI n s) {b : Nat} (hb : b < n) (p : Int) : Calls Try.prog 41 #[.pointer (some ⟨SB, 0, none⟩), .int .i64 (b : Int)] W fun e w' => e = .returned (.tuple #[]) ∧ ∃ mv' r', FsTo N W w' SB RB n (s.on b p) mv mv' r' := by
  obtain ⟨ma, mc, hmv, hm1, hm2, hm3⟩ := h.o.slice
  obtain ⟨m, hm⟩ : ∃ m, m = s.order.length := ⟨_, rfl⟩
  rw [← hm] at hmv
  have hSR : SB ≠ RB := ownN_ne h.r h.k (by decide)
  have hSm : ∀ q, mv.ownBlock = some q → SB ≠ q := fun q hq => by
    rcases h.o.2 with ⟨e, _⟩ | ⟨q', c', cur, e, _, e2, _⟩
    · rw [e] at hq; cases hq
    · rw [e] at hq
      injection hq with hq
      subst hq
      intro e3
      subst e3
      have h9 := h.k
      unfold Bk at h9
      rw [e2] at h9
      simp at h9
  have hX : ∀ W', W.grownBy W' none → W'.cell? ⟨SB, 0, none⟩ = some (.slice ma m mc) ∧ W'.cell? ⟨SB, 1, none⟩ = some (.slice (some ⟨RB, 0, none⟩) n n) := fun W' g => by
    rw [← hmv]
    exact ⟨(h.k.grow g).cell (i := 0) rfl, (h.k.grow g).cell (i := 1) rfl⟩
  have HX : Hid (∀ W', W.grownBy W' none → W'.cell? ⟨SB, 0, none⟩ = some (.slice ma m mc) ∧ W'.cell? ⟨SB, 1, none⟩ = some (.slice (some ⟨RB, 0, none⟩) n n)) := hX
  have HS : Hid (FsL N W SB RB n s mv r) := h
  have HMv : Hid (mv = .slice ma m mc) := hmv
  have HM : Hid (m = s.order.length) := hm
  have HNe : Hid (SB ≠ RB ∧ ∀ q, mv.ownBlock = some q → SB ≠ q) := ⟨hSR, hSm⟩
  have hbn : (b : Int) < (n : Int) := by omega
  have hml : s.order.length ≤ 2000000 := by have := hI.le; omega
  have HI : Hid (Sa.WkI n s) := hI
  have HN : Hid (N ≤ W.heap.size) := hN
  clear h hI hmv hm hSm hX hm1 hm2 hm3 hN
  go_enter Try.func41, Try.ntmps41
  go_wp2_with fail
  refine region_lg 11 (World.grownBy.refl _ _) (by kernel_rfl) (by kernel_rfl) (by kernel_rfl) (by kernel_rfl) ?_
  simp only [List.take_succ_cons, List.take_zero]
  repeat (first
    | (refine lx_end fun W0 G0 => ?_)
    | (refine lx_no ?_ ?_ ?_; (· simp [Region.wanted]; done); (· kernel_rfl); simp only [Act.put, List.setIfInBounds_toArray, List.set_cons_succ, List.set_cons_zero])
    | (refine lx_val (v := ?_) ?_ ?_ ?_ ?_; rotate_left; (· kernel_rfl); (· exact ⟨by kernel_rfl, rfl⟩); (· intro W g; simp [go_sem, (HX.out W g).1, (HX.out W g).2, hbn]; rfl); simp only [Act.put, List.setIfInBounds_toArray, List.set_cons_succ, List.set_cons_zero]))
  simp only [List.drop_succ_cons, List.drop_zero]

  obtain ⟨W1, hW1⟩ : ∃ W1, W1 = W0.setCell ⟨RB, b, none⟩ (.int .i64 (m : Int)) := ⟨_, rfl⟩
  have hC1 : Ch W W1 [RB] := by rw [hW1]; exact (Ch.of (l := [RB]) G0).trans (Ch.one (grown_set _ _ _ _) (by simp))
  have hK1 : Bk W1 SB 67 [mv, .slice (some ⟨RB, 0, none⟩) n n] := HS.out.k.ch hC1 (by simp; exact HNe.out.1)
  have hO1 : OwnZ W1 N mv s.order := HS.out.o.ch hC1 (fun q hq => by have := HS.out.a q hq; simpa using this)
  have hR1 : OwnN W1 N (.slice (some ⟨RB, 0, none⟩) n n) n (setF r b m) := by rw [hW1]; exact (HS.out.r.grow G0).set hb _
  have fR := (HS.out.r.grow G0).frozen b
  have cR := (HS.out.r.grow G0).cell hb
  have x0 := hK1.cell (i := 0) rfl
  have HK1 : Hid (Bk W1 SB 67 [mv, .slice (some ⟨RB, 0, none⟩) n n]) := hK1
  have HO1 : Hid (OwnZ W1 N mv s.order) := hO1
  have HR1 : Hid (OwnN W1 N (.slice (some ⟨RB, 0, none⟩) n n) n (setF r b m)) := hR1
  have HC1 : Hid (Ch W W1 [RB]) := hC1
  rw [HMv.out, hW1] at x0
  clear hK1 hO1 hR1 hC1 hSR
  go_wp2_with (at_builtin; rw [← hW1]; refine wp_appZ1 rfl (.tmp 19) (.tmp 21) rfl N mv s.order b (by rw [HMv.out]; rfl) HO1.out rfl (by rw [hW1]; first | rfl | simp) hml (by have := HC1.out.size; have := HN.out; omega) ?_; intro v9 w9 ho9 hg9 hb9; obtain ⟨va9, vc9, hv9, -⟩ := ho9.slice; rw [List.length_append, List.length_singleton] at hv9; subst hv9; have hC9 : Ch W1 w9 mv.ownBlock.toList := grown_ch hg9 (by intro q hq; simp [hq]); have hK9 := HK1.out.ch hC9 (by intro hm; rw [Option.mem_toList] at hm; exact HNe.out.2 _ hm rfl); have hR9 := HR1.out.ch hC9 (by intro q hq hm; rw [Option.mem_toList] at hm; injection hq with hq; subst hq; exact HS.out.a _ hm rfl); have HC9 : Hid (Ch W1 w9 mv.ownBlock.toList) := hC9; have HO9 : Hid (OwnZ w9 N (.slice va9 (s.order.length + 1) vc9) (s.order ++ [(b : Int)])) := ho9; have HB9 : Hid (∀ q, (Value.slice va9 (s.order.length + 1) vc9).ownBlock = some q → mv.ownBlock = some q ∨ W1.heap.size ≤ q) := hb9; have HK9 : Hid (Bk w9 SB 67 [mv, .slice (some ⟨RB, 0, none⟩) n n]) := hK9; have HR9 : Hid (OwnN w9 N (.slice (some ⟨RB, 0, none⟩) n n) n (setF r b m)) := hR9; have f9 := hK9.frozen 0; have z9 := hK9.cell (i := 0) rfl; clear ho9 hg9 hb9 hC9 hK9 hR9)
  go_end0
  refine ⟨rfl, .slice va9 (s.order.length + 1) vc9, setF r b m, ⟨HK9.out.set 0 _, HS.out.lo, ?_, ?_, fun q hq => ?_, fun q hq => ?_⟩, ?_, fun q hq => ?_⟩
  · show OwnZ _ N (.slice va9 (s.order.length + 1) vc9) (s.order ++ [(b : Int)])
    refine HO9.out.ch (Ch.one (l := [SB]) (grown_set _ _ _ _) (by simp)) fun q hq hm => ?_
    rw [List.mem_singleton] at hm
    subst hm
    rcases HB9.out _ hq with h1 | h1
    · exact HNe.out.2 _ h1 rfl
    · have := HK1.out.lt; omega
  · exact HR9.out.ch (Ch.one (l := [SB]) (grown_set _ _ _ _) (by simp)) fun q hq hm => by rw [List.mem_singleton] at hm; injection hq with hq; subst hm; exact HNe.out.1 hq.symm
  · rcases HB9.out _ hq with h1 | h1
    · exact HS.out.a _ h1
    · have := HR1.out.lt RB rfl; omega
  · have h3 := HS.out.pl q hq
    show 0 ≤ setF r b m q ∧ (setF s.rank (b : Int).toNat s.order.length q ≠ -1 → setF r b m q = setF s.rank (b : Int).toNat s.order.length q)
    rw [Int.toNat_natCast, ← HM.out]
    unfold setF
    split
    · exact ⟨by omega, fun _ => rfl⟩
    · exact h3
  · exact ((HC1.out.mono (l' := SB :: RB :: mv.ownBlock.toList) (fun k _ hk => by rw [List.mem_singleton] at hk; rw [hk]; simp)).trans (HC9.out.mono (fun k _ hk => List.mem_cons_of_mem _ (List.mem_cons_of_mem _ hk)))).trans (Ch.one (grown_set _ _ _ _) (by simp))
  · rcases HB9.out _ hq with h1 | h1
    · exact .inl h1
    · have := HC1.out.size; exact .inr (by omega)
end Go.Proofs.Ytbpdggdpgohilaa
