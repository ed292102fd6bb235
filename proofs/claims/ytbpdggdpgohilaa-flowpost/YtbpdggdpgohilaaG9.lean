/- Contracts and plain facts that the walks share. -/
import Derived.Test.YtbpdggdpgohilaaG7
import Derived.Test.YtbpdggdpgohilaaSaWy
import Derived.Test.YtbpdggdpgohilaaRuLx
import Derived.Test.YtbpdggdpgohilaaRuLu
namespace Go.Proofs.Ytbpdggdpgohilaa
open Go.RowKit
set_option linter.unusedVariables false
namespace Sa
theorem least_pos : ∀ {f : Nat} {n known : Int} {s : Fo}, 0 ≤ n → 0 ≤ known → (∀ j : Nat, 0 ≤ s.low j) → 0 ≤ (least f n known s).1 ∧ ∀ j : Nat, 0 ≤ (least f n known s).2.low j
  | 0, n, known, s, hn, hk, hs => ⟨hn, hs⟩
  | f + 1, n, known, s, hn, hk, hs => by
    rw [least]
    split
    · exact ⟨hn, hs⟩
    · split
      · rename_i h1 h2
        have ih := least_pos (f := f) (n := s.up n.toNat) (known := known) (s := s) (by omega) hk hs
        have h3 := hs n.toNat
        refine ⟨by simp only; omega, fun j => ?_⟩
        simp only
        unfold setF
        split
        · omega
        · exact ih.2 j
      · exact ⟨hs _, hs⟩
theorem semiIn_nil (w : Wk) (i : Nat) (m : Int) (s : Fo) : semiIn w i [] m s = (m, s) := rfl
theorem semiIn_cons (w : Wk) (i : Nat) (p : Int) (l : List Int) (m : Int) (s : Fo) : semiIn w i (p :: l) m s = semiIn w i l (min m (least (i + w.order.length + 1) (w.rank p.toNat) i s).1) (least (i + w.order.length + 1) (w.rank p.toNat) i s).2 := rfl
theorem semiIn_pos {w : Wk} {i : Nat} : ∀ {l : List Int} {m : Int} {s : Fo}, 0 ≤ m → (∀ p, p ∈ l → 0 ≤ w.rank p.toNat) → (∀ j : Nat, 0 ≤ s.low j) → (0 ≤ (semiIn w i l m s).1 ∧ (semiIn w i l m s).1 ≤ m) ∧ ∀ j : Nat, 0 ≤ (semiIn w i l m s).2.low j
  | [], m, s, hm, hl, hs => ⟨⟨hm, Int.le_refl _⟩, hs⟩
  | p :: l, m, s, hm, hl, hs => by
    rw [semiIn_cons]
    have h1 := least_pos (f := i + w.order.length + 1) (n := w.rank p.toNat) (known := (i : Int)) (s := s) (hl p (by simp)) (by omega) hs
    have h2 := semiIn_pos (w := w) (i := i) (l := l) (m := min m (least (i + w.order.length + 1) (w.rank p.toNat) i s).1) (s := (least (i + w.order.length + 1) (w.rank p.toNat) i s).2) (by omega) (fun q hq => hl q (by simp [hq])) h1.2
    exact ⟨⟨h2.1.1, by have := h2.1.2; omega⟩, h2.2⟩
/-- the blocks that come to the i-th -/
def prs (bs : List Bl) (w : Wk) (i : Nat) : List Int := (bs.getD (w.order.getD i 0).toNat bl0).preds
def semiSt (bs : List Bl) (w : Wk) (i : Nat) (m : Nat → Int) (s : Fo) : (Nat → Int) × Fo :=
  (setF m (i + 1) (semiIn w (i + 1) (prs bs w (i + 1)) (i + 1 : Nat) s).1, ⟨(semiIn w (i + 1) (prs bs w (i + 1)) (i + 1 : Nat) s).2.up, setF (semiIn w (i + 1) (prs bs w (i + 1)) (i + 1 : Nat) s).2.low (i + 1) (semiIn w (i + 1) (prs bs w (i + 1)) (i + 1 : Nat) s).1⟩)
theorem semiAll_zero (bs : List Bl) (w : Wk) (m : Nat → Int) (s : Fo) : semiAll bs w 0 m s = m := rfl
theorem semiAll_succ (bs : List Bl) (w : Wk) (i : Nat) (m : Nat → Int) (s : Fo) : semiAll bs w (i + 1) m s = semiAll bs w i (semiSt bs w i m s).1 (semiSt bs w i m s).2 := rfl
/-- what the program's walk is, of ways that are right -/
structure WkO (bs : List Bl) (w : Wk) : Prop where
  i : WkI bs.length w
  o0 : 0 < w.order.length ∧ w.order.getD 0 0 = 0 ∧ w.parent.getD 0 0 = -1
  p : ∀ b : Nat, b < bs.length → ∀ x, x ∈ (bs.getD b bl0).preds → 0 ≤ x ∧ x < (bs.length : Int) ∧ 0 ≤ w.rank x.toNat ∧ w.rank x.toNat < (w.order.length : Int)
theorem prs_ok {bs : List Bl} {w : Wk} (h : WkO bs w) (i : Nat) : ∀ p, p ∈ prs bs w i → 0 ≤ p ∧ p < (bs.length : Int) ∧ 0 ≤ w.rank p.toNat ∧ w.rank p.toNat < (w.order.length : Int) := by
  intro p hp
  unfold prs at hp
  by_cases hi : i < w.order.length
  · obtain ⟨b, hb, hb1, _⟩ := h.i.ord i hi
    rw [hb1, Int.toNat_natCast] at hp
    exact h.p b hb p hp
  · rw [List.getD_eq_getElem?_getD (l := w.order), List.getElem?_eq_none (by omega)] at hp
    have h0 : 0 < bs.length := by have := h.i.le; have := h.o0.1; omega
    exact h.p 0 h0 p hp
theorem semiSt_pos {bs : List Bl} {w : Wk} (h : WkO bs w) {i : Nat} {m : Nat → Int} {s : Fo} (hm : ∀ j : Nat, 0 ≤ m j ∧ m j ≤ j) (hs : ∀ j : Nat, 0 ≤ s.low j) : (∀ j : Nat, 0 ≤ (semiSt bs w i m s).1 j ∧ (semiSt bs w i m s).1 j ≤ j) ∧ ∀ j : Nat, 0 ≤ (semiSt bs w i m s).2.low j := by
  have h1 := semiIn_pos (w := w) (i := i + 1) (l := prs bs w (i + 1)) (m := ((i + 1 : Nat) : Int)) (s := s) (by omega) (fun p hp => (prs_ok h _ p hp).2.2.1) hs
  refine ⟨fun j => ?_, fun j => ?_⟩
  · unfold semiSt setF
    simp only
    split
    · rename_i e; subst e; exact h1.1
    · exact hm j
  · unfold semiSt setF
    simp only
    split
    · exact h1.1.1
    · exact h1.2 j
theorem semiAll_pos {bs : List Bl} {w : Wk} (h : WkO bs w) : ∀ {i : Nat} {m : Nat → Int} {s : Fo}, (∀ j : Nat, 0 ≤ m j ∧ m j ≤ j) → (∀ j : Nat, 0 ≤ s.low j) → ∀ j : Nat, 0 ≤ semiAll bs w i m s j ∧ semiAll bs w i m s j ≤ j
  | 0, m, s, hm, hs => hm
  | i + 1, m, s, hm, hs => by
    rw [semiAll_succ]
    have h1 := semiSt_pos h (i := i) hm hs
    exact semiAll_pos h h1.1 h1.2
theorem semis_pos {bs : List Bl} {w : Wk} (h : WkO bs w) (j : Nat) : 0 ≤ semis bs w j ∧ semis bs w j ≤ j := semiAll_pos h (fun j => ⟨Int.le_refl _, by simp⟩) (fun _ => Int.le_refl _) j
end Sa
end Go.Proofs.Ytbpdggdpgohilaa
namespace Go.Proofs.Ytbpdggdpgohilaa
open Go.RowKit
set_option linter.unusedVariables false
set_option maxRecDepth 100000
set_option maxHeartbeats 8000000
/-- a value as it is handed over -/
abbrev vlV (v : Sa.Vl) (a : Option Addr) (k : Nat) : Array Value := #[.int .i64 v.op, .int .i64 v.kind, .slice a v.args.length k, .int .i64 v.n, .int .i64 v.m]
/-- numbers of the reader's own -/
structure NumF (N : Nat) (w : World) (v : Value) (n : Nat) (f : Nat → Int) : Prop where
  own : OwnN w N v n f
theorem natB (L k : Nat) : ((L : Int) == (k : Int)) = (L == k) := by
  rw [Bool.eq_iff_iff, beq_iff_eq, beq_iff_eq]
  omega
theorem CdL.num {B : Nat → Prop} {w : World} {a : Option Addr} {k : Nat} {l : List Sa.Cd} (h : CdL B w a k l) {n : Nat} (hn : n < l.length) : ∃ b o a1 a2 a3 a4 k1 k2 k3 k4, a = some ⟨b, o, none⟩ ∧ B b ∧ CdC B w b (o + n * 4) (l.getD n Sa.cd0) a1 a2 a3 a4 k1 k2 k3 k4 := by
  obtain ⟨b, o, e, hb, a1, a2, a3, a4, k1, k2, k3, k4, h⟩ := h.at hn
  refine ⟨b, o, a1, a2, a3, a4, k1, k2, k3, k4, e, hb, ?_⟩
  rw [show l.getD n Sa.cd0 = l[n] by simp [List.getD_eq_getElem?_getD, hn]]
  exact h
/-- a block as it is handed over -/
abbrev blV (b : Sa.Bl) (a1 a2 a3 a4 : Option Addr) (k1 k2 k3 k4 : Nat) : Array Value := #[.int .i64 b.kind, .int .i64 b.n, .slice a1 b.args.length k1, .slice a2 b.preds.length k2, .slice a3 b.succs.length k3, .slice a4 b.list.length k4]
/-- values' numbers: each one's a value's -/
def Sa.inVals (c : Sa.Cd) (l : List Int) : Prop := ∀ x, x ∈ l → 0 ≤ x ∧ x < (c.values.length : Int)
theorem Sa.areVals_in {c : Sa.Cd} {l : List Int} (h : Sa.areVals c l = true) : Sa.inVals c l := fun x hx => (Sa.isVal_iff.1 (List.all_eq_true.1 h x hx)).1
/-- a world that has grown out of W -/
theorem Gw.on {W w' : World} {y : Gw W} (h : y.w.grownBy w' none) : ∃ z : Gw W, w' = z.w := ⟨⟨w', grown_trans y.h h⟩, rfl⟩
theorem Gw.of {W w' : World} (h : W.grownBy w' none) : ∃ z : Gw W, w' = z.w := ⟨⟨w', h⟩, rfl⟩
/-- numbers written out in a call -/
theorem NumL.lit {w : World} {t : TypeId} (l : List Int) (hl : l.length ≤ 100) {b : Nat} {vs : Array Value} (hb : w.heap[b]? = some (.cells vs t)) (hv : vs = (l.map (Value.int .i64)).toArray) : NumL (fun _ => True) w (some ⟨b, 0, none⟩) l.length l := by
  refine ⟨(fun h => by cases h), Nat.le_refl _, by unfold maxLen; omega, by unfold reachBytes; omega, .inr ⟨b, 0, rfl, trivial, fun i x hx => ?_⟩⟩
  unfold NumQ
  simp [World.cell?, hb, hv, hx]
/-- a prefix of a row -/
theorem NumL.pre {B : Nat → Prop} {w : World} {a : Option Addr} {k : Nat} {l : List Int} (h : NumL B w a k l) (m : Nat) : NumL B w a k (l.take m) := by
  refine ⟨fun e => ?_, ?_, h.max, ?_, ?_⟩
  · have := h.nil e; rw [this.1]; exact ⟨by simp, this.2⟩
  · have := h.le; rw [List.length_take]; exact Nat.le_trans (Nat.min_le_right _ _) this
  · have := h.fits; rw [List.length_take]; have h2 : min m l.length ≤ l.length := Nat.min_le_right _ _; exact Nat.le_trans (Nat.mul_le_mul_right _ h2) this
  · rcases h.lie with h0 | ⟨b, o, e, hb, hx⟩
    · exact .inl (by rw [h0]; simp)
    · refine .inr ⟨b, o, e, hb, fun i x hi => hx i x ?_⟩
      rw [List.getElem?_take] at hi
      split at hi
      · exact hi
      · cases hi
theorem Sa.inVals.pre {c : Sa.Cd} {l : List Int} (h : Sa.inVals c l) (m : Nat) : Sa.inVals c (l.take m) := fun x hx => h x (List.mem_of_mem_take hx)
theorem eq_true_of_pos {p : Prop} (h : p) : p = True := propext ⟨fun _ => trivial, fun _ => h⟩
end Go.Proofs.Ytbpdggdpgohilaa
namespace Go.Proofs.Ytbpdggdpgohilaa
open Go.RowKit
set_option linter.unusedVariables false
section
variable {P : Program} {ops : Array Oper} {R : World → World → Prop}
set_option maxHeartbeats 2000000 in
theorem any_of_all (htr : ∀ {w w1 w2 : World}, R w w1 → R w1 w2 → R w w2) (hrf : ∀ w : World, R w w) {n : Nat} {a0 : Act} {W : World} {Q : Exit → Act → World → Prop} {Ψ : Nat → Value → World → Prop} {Z : List PanicEntry → World → Prop} (hZ : ∀ c a w, a.defers = a0.defers → Z c w → Q (.panic c) a w) {l : List Oper} (hl : ops = l.toArray)
    (hst : ∀ i v w w', i < n → Ψ i v w → R w w' → Ψ i v w')
    (hsel : Region.noSelect ops = true) (hn : n = ops.size) (hlex : Region.lexHead .any ops 0 n 0 (lexed ops.size 0) = true)
    (hL : lookG ops n = true) (hD : dstR ops n a0.tmps.size = true)
    (hstep : ∀ i, i < n → ∀ V w', R W w' → (∀ j, (depsOf ops i).contains j = true → Ψ j (V j) w') → stepVX P ops R Z Ψ i (frV ops a0 V i) w')
    (hend : ∀ V w', R W w' → (∀ i, i < n → Ψ i (V i) w') → Q .normal (frV ops a0 V n) w') (f : Nat) :
    ∀ listed a w, left listed n = f → HeadInv .any ops n listed → FrInv ops n a0 Ψ listed a w → R W w → wpAny P .any ops Q f listed a w := by
  have hval : ∀ {listed a w i}, FrInv ops n a0 Ψ listed a w → i < n → listed.getD i false = true → Ψ i (valOf ops a i) w := by
    intro listed a w i inv hi hli
    unfold valOf
    cases hd : dstOf ops i with
    | none => exact inv.non i hi hli hd
    | some d => exact inv.val i d hi hli hd
  induction f with
  | zero =>
    intro listed a w hf hinv inv hg
    have hall := left_zero hf
    have ea : a = frV ops a0 (valOf ops a) n := by
      obtain ⟨tm, df⟩ := a
      have h1 : tm = (frV ops a0 (valOf ops ⟨tm, df⟩) n).tmps := by
        apply Array.ext_getElem?
        intro s
        by_cases hex : ∃ j, j < n ∧ dstOf ops j = some s
        · obtain ⟨j, hj, hd⟩ := hex
          exact (frV_in a0 ⟨tm, df⟩ inv.size n s ⟨j, hj, hd⟩ (dstR_lt hD hj hd)).symm
        · have hno : ∀ j, j < n → dstOf ops j ≠ some s := fun j hj hd => hex ⟨j, hj, hd⟩
          rw [frV_out a0 _ n s hno]
          exact inv.old s fun i hi _ => hno i hi
      have h2 : df = (frV ops a0 (valOf ops ⟨tm, df⟩) n).defers := by rw [frV_defers]; exact inv.defers
      generalize frV ops a0 (valOf ops ⟨tm, df⟩) n = b at *
      obtain ⟨bt, bd⟩ := b
      simp_all
    have hw := hend (valOf ops a) w hg fun i hi => hval inv hi (hall i hi)
    rw [← ea] at hw
    refine ⟨?_, hw⟩
    apply List.eq_nil_iff_forall_not_mem.2
    intro i hi
    obtain ⟨h1, o, ho, _⟩ := mem_ready.1 hi
    have hlt : i < n := by
      rw [hn]
      rcases Nat.lt_or_ge i ops.size with h' | h'
      · exact h'
      · rw [Array.getElem?_eq_none h'] at ho; cases ho
    have h2 := hall i hlt
    have h3 := getD_both h1
    rw [h3] at h2
    cases h2
  | succ f ih =>
    intro listed a w hf hinv inv hg
    obtain ⟨k, hk, hkf, hkall⟩ := left_pos (by rw [hf]; exact Nat.succ_ne_zero f)
    have hkt : listed.getD k true = false := getD_in (by rw [hinv.size]; omega) hkf
    have hkr : k ∈ Region.ready .any ops listed := by
      have h0 := lexHead_at ops.size n 0 (by simpa using hlex) k (Nat.zero_le _) (by omega)
      obtain ⟨_, o, ho, hall⟩ := mem_ready.1 h0
      refine mem_ready.2 ⟨hkt, o, ho, fun e he hb => ?_⟩
      have h1 := hall e he hb
      have h2 : e.on < ops.size := by
        rcases Nat.lt_or_ge e.on (lexed ops.size k).size with h' | h'
        · rw [lexed_size] at h'; exact h'
        · simp [Array.getElem?_eq_none h'] at h1
      rw [lexed_get ops.size k e.on h2] at h1
      exact hkall e.on (by simpa using h1)
    refine ⟨fun h0 => absurd h0 (List.ne_nil_of_mem hkr), fun i hi => ?_⟩
    obtain ⟨hiun, o, ho, hall⟩ := mem_ready.1 hi
    have hin : i < n := by
      rw [hn]
      rcases Nat.lt_or_ge i ops.size with h' | h'
      · exact h'
      · rw [Array.getElem?_eq_none h'] at ho; cases ho
    have hlk := lookG_spec hL hin ho
    have hd : dstOf ops i = o.dst := by unfold dstOf; rw [ho]; rfl
    have S := hstep i hin (valOf ops a) w hg fun j hj => by
      have hj' := List.mem_filter.1 (show j ∈ depsOf ops i by simpa using hj)
      have hlt := List.mem_range.1 hj'.1
      exact hval inv (by omega) (waits_listed hi hj'.2)
    unfold stepVX at S
    simp only [ho] at S
    have hex : execOp a.eval o = execOp (frV ops a0 (valOf ops a) i).eval o := by
      refine execOp_congr o (fun cs b => Region.noSelect_spec hsel i o cs b ho) fun x hx => eval_same fun t ht => ?_
      subst ht
      have htl : t ∈ o.looksAt ops := List.mem_append_left _ (List.mem_filterMap.2 ⟨.tmp t, by simpa using hx, rfl⟩)
      by_cases hexi : ∃ j, j < n ∧ dstOf ops j = some t
      · obtain ⟨j, hj, hdj⟩ := hexi
        obtain ⟨hji, _⟩ := hlk t htl j hj hdj
        exact (frV_in a0 a inv.size i t ⟨j, hji, hdj⟩ (dstR_lt hD hj hdj)).symm
      · have hno : ∀ j, j < n → dstOf ops j ≠ some t := fun j hj hd => hexi ⟨j, hj, hd⟩
        rw [frV_out a0 _ i t fun j hj => hno j (by omega)]
        exact inv.old t fun j hj _ => hno j hj
    have next : ∀ v w', (dstOf ops i = none → v = undef) → R w w' → Ψ i v w' → wpAny P .any ops Q f (listed.setIfInBounds i true) (a.put o.dst v) w' := by
      intro v w' hun hg' hv
      have hlf : left (listed.setIfInBounds i true) n = f := by have := left_set hin hiun; omega
      refine ih _ _ _ hlf (hinv.set hi hin) ?_ (htr hg hg')
      have hset : ∀ j, j ≠ i → (listed.setIfInBounds i true).getD j false = true → listed.getD j false = true := fun j hj h => by rwa [getD_set_ne false (Ne.symm hj)] at h
      refine ⟨(put_size _ _ _).trans inv.size, (put_defers _ _ _).trans inv.defers, fun s hs' => ?_, fun j d hj hjl hjd => ?_, fun j hj hjl hjd => ?_⟩
      · have h1 : dstOf ops i ≠ some s := hs' i hin (by
          have : i < listed.size := by rw [hinv.size]; omega
          simp [this])
        rw [put_other _ _ (by rw [← hd]; exact h1)]
        exact inv.old s fun j hj hjl => hs' j hj (getD_set_true hjl)
      · by_cases hji : j = i
        · subst hji
          have e : o.dst = some d := by rw [← hd]; exact hjd
          rw [e]
          have hlt : d < a.tmps.size := by rw [inv.size]; exact dstR_lt hD hin hjd
          have := put_same a d v hlt
          rw [Array.getD_eq_getD_getElem?, this]
          exact hv
        · have hne : o.dst ≠ some d := by rw [← hd]; exact dstR_ne hD hj hin hji hjd
          have := put_other a v hne
          rw [Array.getD_eq_getD_getElem?, this, ← Array.getD_eq_getD_getElem?]
          exact hst _ _ _ _ hj (inv.val j d hj (hset j hji hjl) hjd) hg'
      · by_cases hji : j = i
        · subst hji
          rw [← hun hjd]; exact hv
        · exact hst _ _ _ _ hj (inv.non j hj (hset j hji hjl) hjd) hg'
    have hwv : Region.wanted o (yielded ops a.tmps) = Region.wanted o (yielded ops (frV ops a0 (valOf ops a) i).tmps) := by
      unfold Region.wanted
      cases hgd : o.guard with
      | none => rfl
      | some x =>
        obtain ⟨g, want⟩ := x
        have hy : yielded ops a.tmps g = yielded ops (frV ops a0 (valOf ops a) i).tmps g := by
          unfold yielded
          cases hdg : (ops[g]?).bind (·.dst) with
          | none => rfl
          | some t =>
            have htl : t ∈ o.looksAt ops := by
              unfold Oper.looksAt
              rw [hgd]
              exact List.mem_append_right _ (by simp only [hdg]; simp)
            have he : a.tmps[t]? = (frV ops a0 (valOf ops a) i).tmps[t]? := by
              by_cases hexi : ∃ j, j < n ∧ dstOf ops j = some t
              · obtain ⟨j, hj, hdj⟩ := hexi
                obtain ⟨hji, _⟩ := hlk t htl j hj hdj
                exact (frV_in a0 a inv.size i t ⟨j, hji, hdj⟩ (dstR_lt hD hj hdj)).symm
              · have hno : ∀ j, j < n → dstOf ops j ≠ some t := fun j hj hd => hexi ⟨j, hj, hd⟩
                rw [frV_out a0 _ i t fun j hj => hno j (by omega)]
                exact inv.old t fun j hj _ => hno j hj
            simp only [Option.bind_some, he]
        simp only [hy]
    unfold wpOp
    simp only [ho]
    rw [hwv]
    by_cases hwa : Region.wanted o (yielded ops (frV ops a0 (valOf ops a) i).tmps) = true
    case neg =>
      rw [if_neg hwa]
      rw [if_neg hwa] at S
      exact next undef w (fun _ => rfl) (hrf w) S
    rw [if_pos hwa]
    rw [if_pos hwa] at S
    refine .inl ?_
    unfold Oper.wp
    rw [hex]
    generalize (execOp (frV ops a0 (valOf ops a) i).eval o).run P w = r at S
    match r, S with
    | .ok (.value v) w', S => exact next v w' (fun e => by rw [e] at S; cases S.1) S.2.1 S.2.2
    | .ok .skip w', S => exact next undef w' (fun _ => rfl) S.1 S.2
    | .ok (.enter fn args) w', S =>
      rw [Oper.upon_enter]
      obtain ⟨hS, S⟩ := S
      refine Calls.mono S ?_
      rintro e w'' (⟨v, rfl, h1, h2⟩ | ⟨c, rfl, hz⟩)
      · exact next v w'' (fun e => by rw [e] at hS; cases hS) h1 h2
      · exact hZ c a w'' inv.defers hz
    | .halt (.panic v) w', S => exact hZ _ a w' inv.defers S
theorem region_invA (htr : ∀ {w w1 w2 : World}, R w w1 → R w1 w2 → R w w2) (hrf : ∀ w : World, R w w) {id : Nat} {Q : Exit → Act → World → Prop} {a : Act} {w : World} {l : List Oper} (n : Nat) (Ψ : Nat → Value → World → Prop) {Z : List PanicEntry → World → Prop} (hZ : ∀ c a' w, a'.defers = a.defers → Z c w → Q (.panic c) a' w)
    (hm : P.follows .mixedOrders = true) (hsel : Region.noSelect l.toArray = true) (hn : n = l.toArray.size) (hlex : Region.lexHead .any l.toArray 0 n 0 (lexed l.toArray.size 0) = true) (hL : lookG l.toArray n = true) (hD : dstR l.toArray n a.tmps.size = true)
    (hst : ∀ i v w w', i < n → Ψ i v w → R w w' → Ψ i v w')
    (hstep : ∀ i, i < n → ∀ V w', R w.drew w' → (∀ j, (depsOf l.toArray i).contains j = true → Ψ j (V j) w') → stepVX P l.toArray R Z Ψ i (frV l.toArray a V i) w')
    (hend : ∀ V w', R w.drew w' → (∀ i, i < n → Ψ i (V i) w') → Q .normal (frV l.toArray a V n) w') : (Code.region id l.toArray true).wp P Q a w := by
  have inv0 : HeadInv .any l.toArray n (Array.replicate l.toArray.size false) :=
    ⟨by simp, fun j oj _ hl => (by rw [getD_replicate_false] at hl; cases hl), fun t _ ht => getD_in (by simpa using ht) (getD_replicate_false _ _)⟩
  have hl0 : left (Array.replicate l.toArray.size false) n = n := by
    unfold left
    rw [List.filter_eq_self.2 fun i _ => by rw [getD_replicate_false]; rfl]
    simp
  have fr0 : FrInv l.toArray n a Ψ (Array.replicate l.toArray.size false) a w.drew :=
    ⟨rfl, rfl, fun _ _ => rfl, fun i d _ h => (by rw [getD_replicate_false] at h; cases h), fun i _ h => (by rw [getD_replicate_false] at h; cases h)⟩
  have T := any_of_all (R := R) htr hrf (P := P) (Q := Q) (ops := l.toArray) (n := n) (a0 := a) (W := w.drew) (Ψ := Ψ) hZ rfl hst hsel hn (by simpa [lexed] using hlex) hL hD hstep hend n _ a w.drew hl0 inv0 fr0 (hrf _)
  rw [hn] at T
  exact wp_region_any hm T
set_option maxHeartbeats 2000000 in
/-- the whole of it in any order -/
theorem region_la (K : World → Prop) {id : Nat} {Q : Exit → Act → World → Prop} {a : Act} {w : World} {l : List Oper} (n : Nat) (hm : P.follows .mixedOrders = true) (hB : (Region.noSelect l.toArray && decide (n = l.toArray.size) && Region.lexHead .any l.toArray 0 n 0 (lexed l.toArray.size 0)) = true) (hL : lookG l.toArray n = true) (hD : dstR l.toArray n a.tmps.size = true)
    (hK : K w.drew) (h : lxs P l.toArray K (fun c w => ∀ a', a'.defers = a.defers → Q (.panic c) a' w) (fun A => ∀ w', K w' → Q .normal A w') [] 0 l a) : (Code.region id l.toArray true).wp P Q a w := by
  simp only [Bool.and_eq_true, decide_eq_true_eq] at hB
  obtain ⟨⟨hsel, hnn⟩, hlex⟩ := hB
  have hn : n = l.length := by simpa using hnn
  obtain ⟨outs, -, hst, hE⟩ := lxs_outs (ops := l.toArray) (P := P) (a := a) (fun _ => some undef) rfl (by simp) h
  simp only [Nat.zero_add] at hst hE
  rw [← hn] at hE
  refine region_invA (R := fun w w' => K w → K w') (fun h1 h2 h3 => h2 (h1 h3)) (fun _ h => h) n (fun i v _ => outs i = some v) (Z := fun c w => ∀ a', a'.defers = a.defers → Q (.panic c) a' w) (fun c a' w hd h => h a' hd) hm hsel hnn hlex hL hD (fun i v w w' _ h _ => h) (fun i hi V w' g hV => ?_) fun V w' g hV => ?_
  · have ho : l[i]? = some l[i] := by rw [List.getElem?_eq_getElem (by omega)]
    have ho' : l.toArray[i]? = some l[i] := by rw [List.getElem?_toArray, List.getElem?_eq_getElem (by omega)]
    unfold stepVX
    rw [ho']
    have hlk := lookG_spec hL hi ho'
    rcases hst i _ ho with ⟨_, j, hj, hc⟩ | hs
    · have := hV j hc
      rw [hj] at this
      cases this
    · have hs := hs w' (g hK)
      have same : ∀ t, t ∈ (l[i]).looksAt l.toArray → (frV l.toArray a V i).tmps[t]? = (frV l.toArray a (fun j => (outs j).getD undef) i).tmps[t]? := fun t ht => frV_same fun j hj hd => by
        have h9 := (hlk t ht j (by omega) hd).2
        have h8 := hV j (by
          have : j ∈ depsOf l.toArray i := List.mem_filter.2 ⟨List.mem_range.2 hj, h9⟩
          simpa using this)
        simp only [h8]
        rfl
      have hex : execOp (frV l.toArray a V i).eval l[i] = execOp (frV l.toArray a (fun j => (outs j).getD undef) i).eval l[i] := by
        refine execOp_congr _ (fun cs b => Region.noSelect_spec hsel i _ cs b ho') fun x hx => eval_same fun t ht => ?_
        subst ht
        exact same t (List.mem_append_left _ (List.mem_filterMap.2 ⟨.tmp t, by simpa using hx, rfl⟩))
      have hwn : Region.wanted l[i] (yielded l.toArray (frV l.toArray a V i).tmps) = Region.wanted l[i] (yielded l.toArray (frV l.toArray a (fun j => (outs j).getD undef) i).tmps) := by
        unfold Region.wanted
        cases hgd : (l[i]).guard with
        | none => rfl
        | some x =>
          obtain ⟨g, want⟩ := x
          have hy : yielded l.toArray (frV l.toArray a V i).tmps g = yielded l.toArray (frV l.toArray a (fun j => (outs j).getD undef) i).tmps g := by
            unfold yielded
            cases hdg : (l.toArray[g]?).bind (·.dst) with
            | none => rfl
            | some t =>
              have he := same t (by
                unfold Oper.looksAt
                rw [hgd]
                exact List.mem_append_right _ (by simp only [hdg]; simp))
              simp only [Option.bind_some, he]
          simp only [hy]
      show (if Region.wanted l[i] (yielded l.toArray (frV l.toArray a V i).tmps) = true then _ else _)
      rw [hwn, hex]
      unfold lxStep at hs
      by_cases hwa : Region.wanted l[i] (yielded l.toArray (frV l.toArray a (fun j => (outs j).getD undef) i).tmps) = true
      · rw [if_pos hwa] at hs ⊢
        generalize (execOp (frV l.toArray a (fun j => (outs j).getD undef) i).eval l[i]).run P w' = r at hs
        match r, hs with
        | .ok (.value v) w2, hs => exact ⟨hs.1, fun _ => hs.2.1, hs.2.2⟩
        | .ok .skip w2, hs => exact ⟨fun _ => hs.1, hs.2⟩
        | .ok (.enter fn args) w2, hs =>
          refine ⟨hs.1, hs.2.mono ?_⟩
          rintro e w3 (⟨x, h1, h2, h3⟩ | h1)
          · exact .inl ⟨x, h1, fun _ => h2, h3⟩
          · exact .inr h1
        | .halt (.panic v) w2, hs => exact hs
      · rw [if_neg hwa] at hs ⊢
        exact hs
  · have hall : ∀ j, j < n → outs j ≠ none := fun j hj => by rw [hV j hj]; simp
    have h9 := hE hall w' (g hK)
    rw [frV_congr (V' := fun j => (outs j).getD undef) fun j hj => by simp only [hV j hj]; rfl]
    exact h9
theorem region_lga {W1 : World} {id : Nat} {Q : Exit → Act → World → Prop} {a : Act} {w : World} {l : List Oper} (n : Nat) (hg : W1.grownBy w none) (hm : P.follows .mixedOrders = true) (hB : (Region.noSelect l.toArray && decide (n = l.toArray.size) && Region.lexHead .any l.toArray 0 n 0 (lexed l.toArray.size 0)) = true) (hL : lookG l.toArray n = true) (hD : dstR l.toArray n a.tmps.size = true)
    (h : lxs P l.toArray (fun W => W1.grownBy W none) (fun c w => ∀ a', a'.defers = a.defers → Q (.panic c) a' w) (fun A => ∀ w', W1.grownBy w' none → wpList P l.toArray Q [] A w') [] 0 l a) : (Code.region id l.toArray true).wp P Q a w :=
  region_la (fun W => W1.grownBy W none) n hm hB hL hD (grown_drew hg) h
end
end Go.Proofs.Ytbpdggdpgohilaa
namespace Go.Proofs.Ytbpdggdpgohilaa
open Go.RowKit
set_option linter.unusedVariables false
set_option maxRecDepth 100000
set_option maxHeartbeats 8000000
theorem Sa.hasArgs_len {u : Sa.Un} {c : Sa.Cd} {s : Sa.Ls} {n : Nat} {v : Sa.Vl} (h : Sa.hasArgs u c s n v = true) : ((v.op = 3 ∨ v.op = 5 ∨ v.op = 12 ∨ v.op = 15) → v.args.length = 1) ∧ ((v.op = 4 ∨ v.op = 8 ∨ v.op = 11 ∨ v.op = 13) → v.args.length = 2) ∧ ((v.op = 7 ∨ v.op = 10) → v.args.length = 3) ∧ (v.op = 14 → Sa.isNum u.codes.length v.n = true ∧ v.args.length = (u.codes.getD v.n.toNat Sa.cd0).params.length + 1) ∧ (v.op = 6 → v.args.length = (c.b (s.home n)).preds.length) := by
  unfold Sa.hasArgs at h
  simp only at h
  refine ⟨fun e => ?_, fun e => ?_, fun e => ?_, fun e => ?_, fun e => ?_⟩
  · rw [if_neg (by omega), if_pos (by omega)] at h; exact beq_iff_eq.1 h
  · rw [if_neg (by omega), if_neg (by omega), if_pos (by omega)] at h; exact beq_iff_eq.1 h
  · rw [if_neg (by omega), if_neg (by omega), if_neg (by omega), if_pos (by omega)] at h; exact beq_iff_eq.1 h
  · rw [if_neg (by omega), if_neg (by omega), if_neg (by omega), if_neg (by omega), if_neg (by omega), if_neg (by omega), if_pos (by omega), Bool.and_eq_true] at h; exact ⟨h.1, beq_iff_eq.1 h.2⟩
  · rw [if_neg (by omega), if_neg (by omega), if_neg (by omega), if_neg (by omega), if_neg (by omega), if_pos (by omega)] at h; exact beq_iff_eq.1 h
end Go.Proofs.Ytbpdggdpgohilaa
