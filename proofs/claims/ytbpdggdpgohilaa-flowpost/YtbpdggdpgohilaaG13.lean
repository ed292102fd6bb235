/- flow: a set as it lies. -/
import Derived.Test.YtbpdggdpgohilaaG8
import Derived.Test.YtbpdggdpgohilaaG12
namespace Go.Proofs.Ytbpdggdpgohilaa
open Go.RowKit
set_option linter.unusedVariables false
set_option maxRecDepth 100000
set_option maxHeartbeats 8000000

/-- a set of blocks that are come to, as it lies -/
structure FsL (N : Nat) (W : World) (SB RB n : Nat) (s : Sa.Wk) (mv : Value) (g : Nat → Int) : Prop where
  k : Bk W SB 67 [mv, .slice (some ⟨RB, 0, none⟩) n n]
  lo : N ≤ SB
  o : OwnZ W N mv s.order
  r : OwnN W N (.slice (some ⟨RB, 0, none⟩) n n) n g
  a : ∀ q, mv.ownBlock = some q → q ≠ RB
  pl : ∀ b : Nat, b < n → 0 ≤ g b ∧ (s.rank b ≠ -1 → g b = s.rank b)
theorem FsL.grow {N : Nat} {W W' : World} {SB RB n : Nat} {s : Sa.Wk} {mv : Value} {r : Nat → Int} (h : FsL N W SB RB n s mv r) (g : W.grownBy W' none) : FsL N W' SB RB n s mv r := ⟨h.k.grow g, h.lo, h.o.grow g, h.r.grow g, h.a, h.pl⟩
theorem flHas_any {N : Nat} {W : World} {SB RB n : Nat} {s : Sa.Wk} {mv : Value} {r : Nat → Int} (h : FsL N W SB RB n s mv r) (hI : Sa.WkI n s) {b : Nat} (hb : b < n) : Calls Try.prog 42 #[.pointer (some ⟨SB, 0, none⟩), .int .i64 (b : Int)] W fun e w' => e = .returned (.bool (decide (s.rank b ≠ -1))) ∧ W.grownBy w' none := by
  obtain ⟨ma, mc, hmv, hm1, hm2, hm3⟩ := h.o.slice
  obtain ⟨hp0, hp1⟩ := h.pl b hb
  obtain ⟨p, hp⟩ : ∃ p : Nat, r b = (p : Int) := ⟨(r b).toNat, by omega⟩
  obtain ⟨m, hm⟩ : ∃ m, m = s.order.length := ⟨_, rfl⟩
  have HM : Hid (m = s.order.length) := hm
  have hx0 := h.k.cell (i := 0) rfl
  have hx1 := h.k.cell (i := 1) rfl
  have cR := h.r.cell hb
  rw [hmv, ← hm] at hx0
  rw [hp] at cR
  rw [← hm] at hm1 hm3
  unfold maxLen at hm2
  have hbn : (b : Int) < (n : Int) := by omega
  have hrn := h.r.slice
  by_cases hpm : p < m
  · obtain ⟨T, rfl, hT⟩ := hm3 (by omega)
    have hcell : W.cell? ⟨T, p, none⟩ = some (.int .i64 (s.order.getD p 0)) := by
      have h9 := h.o
      rw [hmv] at h9
      exact h9.n.cell (i := p) (by rw [← hm]; exact hpm)
    obtain ⟨x, hx⟩ : ∃ x, x = s.order.getD p 0 := ⟨_, rfl⟩
    have hres : (x == (b : Int)) = decide (s.rank b ≠ -1) := by
      rw [hx, Bool.eq_iff_iff, beq_iff_eq, decide_eq_true_eq]
      constructor
      · intro e
        obtain ⟨q, hq, e1, e2⟩ := hI.ord p (by rw [← hm]; exact hpm)
        rw [e1] at e
        have : q = b := by omega
        subst this
        rw [e2]; omega
      · intro e
        rcases hI.rk b hb with h1 | ⟨j, hj, h1, h2⟩
        · exact absurd h1 e
        · have h3 := hp1 e
          rw [hp, h1] at h3
          have : p = j := by omega
          rw [this]; exact h2
    rw [← hx] at hcell
    have HRs : Hid ((x == (b : Int)) = decide (s.rank b ≠ -1)) := hres
    have c1 : (p : Int) < (m : Int) := by omega
    obtain ⟨R, hR⟩ : ∃ R, R = decide (s.rank b ≠ -1) := ⟨_, rfl⟩
    rw [← hR] at HRs ⊢
    have HG : Hid (∀ d, W.grownBy (W.drewN d) none) := fun d => grown_drewN (World.grownBy.refl _ none) d
    clear h hI hp0 hp1 hp hm hmv hx hres hR hrn
    go_enter Try.func42, Try.ntmps42
    go_wp2_with fail
    refine bodyPost_ret (by simp [results, Try.results42, go_sem]; try rfl) rfl ?_
    exact ⟨by rw [HRs.out], World.grownBy.refl _ _⟩
  · have hres : decide (s.rank b ≠ -1) = false := by
      rw [decide_eq_false_iff_not]
      intro e
      rcases hI.rk b hb with h1 | ⟨j, hj, h1, h2⟩
      · exact e h1
      · have h3 := hp1 e
        rw [hp, h1] at h3
        omega
    rw [hres]
    have c1 : ¬ (p : Int) < (m : Int) := by omega
    have c2 : decide ((p : Int) < (m : Int)) = false := decide_eq_false c1
    clear h hI hp0 hp1 hp hm hmv hres hrn
    go_enter Try.func42, Try.ntmps42
    go_wp2_with fail
    refine bodyPost_ret (by simp [results, Try.results42, go_sem]; try rfl) rfl ?_
    exact ⟨rfl, World.grownBy.refl _ _⟩
/-- what adding leaves -/
structure FsTo (N : Nat) (W w' : World) (SB RB n : Nat) (s : Sa.Wk) (mv mv' : Value) (r' : Nat → Int) : Prop where
  a : FsL N w' SB RB n s mv' r'
  c : Ch W w' (SB :: RB :: mv.ownBlock.toList)
  n : ∀ q, mv'.ownBlock = some q → mv.ownBlock = some q ∨ W.heap.size ≤ q
theorem flAdd_any {N : Nat} {W : World} {SB RB n : Nat} {s : Sa.Wk} {mv : Value} {r : Nat → Int} (hN : N ≤ W.heap.size) (hn9 : n ≤ 4096) (h : FsL N W SB RB n s mv r) (hI : Sa.WkI n s) {b : Nat} (hb : b < n) (p : Int) : Calls Try.prog 41 #[.pointer (some ⟨SB, 0, none⟩), .int .i64 (b : Int)] W fun e w' => e = .returned (.tuple #[]) ∧ ∃ mv' r', FsTo N W w' SB RB n (s.on b p) mv mv' r' := by
  obtain ⟨ma, mc, hmv, hm1, hm2, hm3⟩ := h.o.slice
  obtain ⟨m, hm⟩ : ∃ m, m = s.order.length := ⟨_, rfl⟩
  rw [← hm] at hmv
  have hSR : SB ≠ RB := ownN_ne h.r h.k (by decide)
  have hSm : ∀ q, mv.ownBlock = some q → SB ≠ q := fun q hq => by
    rcases h.o.2 with ⟨e, _⟩ | ⟨q', c', cur, e, _, e2, _⟩
    · rw [e] at hq; cases hq
    · rw [e] at hq
      injection hq with hq
      subst hq
      intro e3
      subst e3
      have h9 := h.k
      unfold Bk at h9
      rw [e2] at h9
      simp at h9
  have hX : ∀ W', W.grownBy W' none → W'.cell? ⟨SB, 0, none⟩ = some (.slice ma m mc) ∧ W'.cell? ⟨SB, 1, none⟩ = some (.slice (some ⟨RB, 0, none⟩) n n) := fun W' g => by
    rw [← hmv]
    exact ⟨(h.k.grow g).cell (i := 0) rfl, (h.k.grow g).cell (i := 1) rfl⟩
  have HX : Hid (∀ W', W.grownBy W' none → W'.cell? ⟨SB, 0, none⟩ = some (.slice ma m mc) ∧ W'.cell? ⟨SB, 1, none⟩ = some (.slice (some ⟨RB, 0, none⟩) n n)) := hX
  have HS : Hid (FsL N W SB RB n s mv r) := h
  have HMv : Hid (mv = .slice ma m mc) := hmv
  have HM : Hid (m = s.order.length) := hm
  have HNe : Hid (SB ≠ RB ∧ ∀ q, mv.ownBlock = some q → SB ≠ q) := ⟨hSR, hSm⟩
  have hbn : (b : Int) < (n : Int) := by omega
  have hml : s.order.length ≤ 2000000 := by have := hI.le; omega
  have HI : Hid (Sa.WkI n s) := hI
  have HN : Hid (N ≤ W.heap.size) := hN
  clear h hI hmv hm hSm hX hm1 hm2 hm3 hN
  go_enter Try.func41, Try.ntmps41
  go_wp2_with fail
  refine region_lg 11 (World.grownBy.refl _ _) (by kernel_rfl) (by kernel_rfl) (by kernel_rfl) (by kernel_rfl) ?_
  simp only [List.take_succ_cons, List.take_zero]
  repeat (first
    | (refine lx_end fun W0 G0 => ?_)
    | (refine lx_no ?_ ?_ ?_; (· simp [Region.wanted]; done); (· kernel_rfl); simp only [Act.put, List.setIfInBounds_toArray, List.set_cons_succ, List.set_cons_zero])
    | (refine lx_val (v := ?_) ?_ ?_ ?_ ?_; rotate_left; (· kernel_rfl); (· exact ⟨by kernel_rfl, rfl⟩); (· intro W g; simp [go_sem, (HX.out W g).1, (HX.out W g).2, hbn]; rfl); simp only [Act.put, List.setIfInBounds_toArray, List.set_cons_succ, List.set_cons_zero]))
  simp only [List.drop_succ_cons, List.drop_zero]

  obtain ⟨W1, hW1⟩ : ∃ W1, W1 = W0.setCell ⟨RB, b, none⟩ (.int .i64 (m : Int)) := ⟨_, rfl⟩
  have hC1 : Ch W W1 [RB] := by rw [hW1]; exact (Ch.of (l := [RB]) G0).trans (Ch.one (grown_set _ _ _ _) (by simp))
  have hK1 : Bk W1 SB 67 [mv, .slice (some ⟨RB, 0, none⟩) n n] := HS.out.k.ch hC1 (by simp; exact HNe.out.1)
  have hO1 : OwnZ W1 N mv s.order := HS.out.o.ch hC1 (fun q hq => by have := HS.out.a q hq; simpa using this)
  have hR1 : OwnN W1 N (.slice (some ⟨RB, 0, none⟩) n n) n (setF r b m) := by rw [hW1]; exact (HS.out.r.grow G0).set hb _
  have fR := (HS.out.r.grow G0).frozen b
  have cR := (HS.out.r.grow G0).cell hb
  have x0 := hK1.cell (i := 0) rfl
  have HK1 : Hid (Bk W1 SB 67 [mv, .slice (some ⟨RB, 0, none⟩) n n]) := hK1
  have HO1 : Hid (OwnZ W1 N mv s.order) := hO1
  have HR1 : Hid (OwnN W1 N (.slice (some ⟨RB, 0, none⟩) n n) n (setF r b m)) := hR1
  have HC1 : Hid (Ch W W1 [RB]) := hC1
  rw [HMv.out, hW1] at x0
  clear hK1 hO1 hR1 hC1 hSR
  go_wp2_with (at_builtin; rw [← hW1]; refine wp_appZ1 rfl (.tmp 19) (.tmp 21) rfl N mv s.order b (by rw [HMv.out]; rfl) HO1.out rfl (by rw [hW1]; first | rfl | simp) hml (by have := HC1.out.size; have := HN.out; omega) ?_; intro v9 w9 ho9 hg9 hb9; obtain ⟨va9, vc9, hv9, -⟩ := ho9.slice; rw [List.length_append, List.length_singleton] at hv9; subst hv9; have hC9 : Ch W1 w9 mv.ownBlock.toList := grown_ch hg9 (by intro q hq; simp [hq]); have hK9 := HK1.out.ch hC9 (by intro hm; rw [Option.mem_toList] at hm; exact HNe.out.2 _ hm rfl); have hR9 := HR1.out.ch hC9 (by intro q hq hm; rw [Option.mem_toList] at hm; injection hq with hq; subst hq; exact HS.out.a _ hm rfl); have HC9 : Hid (Ch W1 w9 mv.ownBlock.toList) := hC9; have HO9 : Hid (OwnZ w9 N (.slice va9 (s.order.length + 1) vc9) (s.order ++ [(b : Int)])) := ho9; have HB9 : Hid (∀ q, (Value.slice va9 (s.order.length + 1) vc9).ownBlock = some q → mv.ownBlock = some q ∨ W1.heap.size ≤ q) := hb9; have HK9 : Hid (Bk w9 SB 67 [mv, .slice (some ⟨RB, 0, none⟩) n n]) := hK9; have HR9 : Hid (OwnN w9 N (.slice (some ⟨RB, 0, none⟩) n n) n (setF r b m)) := hR9; have f9 := hK9.frozen 0; have z9 := hK9.cell (i := 0) rfl; clear ho9 hg9 hb9 hC9 hK9 hR9)
  go_end0
  refine ⟨rfl, .slice va9 (s.order.length + 1) vc9, setF r b m, ⟨HK9.out.set 0 _, HS.out.lo, ?_, ?_, fun q hq => ?_, fun q hq => ?_⟩, ?_, fun q hq => ?_⟩
  · show OwnZ _ N (.slice va9 (s.order.length + 1) vc9) (s.order ++ [(b : Int)])
    refine HO9.out.ch (Ch.one (l := [SB]) (grown_set _ _ _ _) (by simp)) fun q hq hm => ?_
    rw [List.mem_singleton] at hm
    subst hm
    rcases HB9.out _ hq with h1 | h1
    · exact HNe.out.2 _ h1 rfl
    · have := HK1.out.lt; omega
  · exact HR9.out.ch (Ch.one (l := [SB]) (grown_set _ _ _ _) (by simp)) fun q hq hm => by rw [List.mem_singleton] at hm; injection hq with hq; subst hm; exact HNe.out.1 hq.symm
  · rcases HB9.out _ hq with h1 | h1
    · exact HS.out.a _ h1
    · have := HR1.out.lt RB rfl; omega
  · have h3 := HS.out.pl q hq
    show 0 ≤ setF r b m q ∧ (setF s.rank (b : Int).toNat s.order.length q ≠ -1 → setF r b m q = setF s.rank (b : Int).toNat s.order.length q)
    rw [Int.toNat_natCast, ← HM.out]
    unfold setF
    split
    · exact ⟨by omega, fun _ => rfl⟩
    · exact h3
  · exact ((HC1.out.mono (l' := SB :: RB :: mv.ownBlock.toList) (fun k _ hk => by rw [List.mem_singleton] at hk; rw [hk]; simp)).trans (HC9.out.mono (fun k _ hk => List.mem_cons_of_mem _ (List.mem_cons_of_mem _ hk)))).trans (Ch.one (grown_set _ _ _ _) (by simp))
  · rcases HB9.out _ hq with h1 | h1
    · exact .inl h1
    · have := HC1.out.size; exact .inr (by omega)
end Go.Proofs.Ytbpdggdpgohilaa
