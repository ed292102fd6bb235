/- flow: a new set, a whole walk, the postorder. -/
import Derived.Test.YtbpdggdpgohilaaFlVi
import Derived.Test.YtbpdggdpgohilaaG11
import Derived.Laws.EntriesVeiled
namespace Go.Proofs.Ytbpdggdpgohilaa
open Go.RowKit
set_option linter.unusedVariables false
set_option maxRecDepth 100000
set_option maxHeartbeats 8000000

theorem run_make_z (w : World) (n : Nat) (hn : (n : Int) ≤ 8796093022208) : ∃ w1, (Instr.makeSlice 24 (.int .i64 0) (.int .i64 n)).run Try.prog w = .ok (.slice (some ⟨w.heap.size, 0, none⟩) 0 n) w1 ∧ OwnZ w1 w.heap.size (.slice (some ⟨w.heap.size, 0, none⟩) 0 n) [] ∧ w.grownBy w1 none ∧ w.heap.size < w1.heap.size := by
  obtain ⟨i, hi, hz0, hz1, hz2⟩ := info_parts info_int
  have := run_make (P := Try.prog) w 24 3 i (.int .i64 0) Try.underlying24 hi hz0 .i64 .i64 0 n (by omega) (by omega) (by rw [hz2]; omega) (by omega)
  rw [hz1] at this
  simp only [Int.toNat_natCast, Nat.mul_one, Int.toNat_zero] at this
  refine ⟨_, this, ⟨rfl, .inr ⟨w.heap.size, n, madeCells (Value.int .i64 0).cells n, rfl, Nat.le_refl _, ?_, Nat.zero_le _, by unfold maxLen; omega, ?_, by simp⟩⟩, World.grownBy_alloc _ _ _, by show w.heap.size < (w.heap.push _).size; rw [Array.size_push]; omega⟩
  · show (w.heap.push _)[w.heap.size]? = _
    simp
  · simp [madeCells]
def nsP (S n : Nat) (W0 : World) : Nat → (Nat → Value) → World → Prop
  | 1, V, w => ∃ q, V 1 = .slice (some ⟨q, 0, none⟩) 0 n ∧ OwnZ w S (V 1) []
  | 3, V, w => ∃ q, V 3 = .slice (some ⟨q, 0, none⟩) n n ∧ OwnN w S (V 3) n (fun _ => 0)
  | 4, V, w => ∃ q1 q3, V 1 = .slice (some ⟨q1, 0, none⟩) 0 n ∧ V 3 = .slice (some ⟨q3, 0, none⟩) n n ∧ V 4 = .agg #[.slice (some ⟨q1, 0, none⟩) 0 n, .slice (some ⟨q3, 0, none⟩) n n]
  | 5, V, w => ∃ q q1 q3, V 5 = .pointer (some ⟨q, 0, none⟩) ∧ S ≤ q ∧ Bk w q 67 [.slice (some ⟨q1, 0, none⟩) 0 n, .slice (some ⟨q3, 0, none⟩) n n] ∧ V 4 = .agg #[.slice (some ⟨q1, 0, none⟩) 0 n, .slice (some ⟨q3, 0, none⟩) n n]
  | 6, V, w => V 6 = V 5 ∧ W0.grownBy w none
  | i, V, w => V i = .int .i64 (n : Int)
def nsG (V : Nat → Value) (w : World) : Prop := (∀ q, (V 1).ownBlock = some q → q < w.heap.size ∧ (V 3).ownBlock ≠ some q) ∧ ∀ q, (V 3).ownBlock = some q → q < w.heap.size
theorem nsG_other {V : Nat → Value} {w w' : World} (h : nsG V w) (hs : w.heap.size ≤ w'.heap.size) {i : Nat} (h1 : (1 : Nat) ≠ i) (h3 : (3 : Nat) ≠ i) {v : Value} : nsG (upV V i v) w' := by
  unfold nsG
  rw [upV_ne h1, upV_ne h3]
  exact ⟨fun q hq => ⟨Nat.lt_of_lt_of_le (h.1 q hq).1 hs, (h.1 q hq).2⟩, fun q hq => Nat.lt_of_lt_of_le (h.2 q hq) hs⟩
theorem nsP_keep {S n : Nat} {W0 : World} {j : Nat} {V : Nat → Value} {w w' : World} (g : w.grownBy w' none) (h : nsP S n W0 j V w) : nsP S n W0 j V w' := by
  unfold nsP at h
  split at h
  · obtain ⟨q, h1, h2⟩ := h; exact ⟨q, h1, h2.grow g⟩
  · obtain ⟨q, h1, h2⟩ := h; exact ⟨q, h1, h2.grow g⟩
  · exact h
  · obtain ⟨q, q1, q3, h1, h2, h3, h4⟩ := h; exact ⟨q, q1, q3, h1, h2, h3.grow g, h4⟩
  · exact ⟨h.1, grown_trans h.2 g⟩
  · unfold nsP
    split <;> first | exact h | (exfalso; simp_all; done)
theorem nsP_cong {S n : Nat} {W0 : World} {j : Nat} {V V' : Nat → Value} {w : World} (h : V j = V' j) (h4 : j = 4 → V 1 = V' 1 ∧ V 3 = V' 3) (h5 : j = 5 → V 4 = V' 4) (h6 : j = 6 → V 5 = V' 5) (hP : nsP S n W0 j V w) : nsP S n W0 j V' w := by
  unfold nsP at hP
  split at hP
  · rw [h] at hP; exact hP
  · rw [h] at hP; exact hP
  · obtain ⟨e1, e3⟩ := h4 rfl
    rw [h, e1, e3] at hP; exact hP
  · rw [h, h5 rfl] at hP; exact hP
  · rw [h, h6 rfl] at hP; exact hP
  · rw [h] at hP
    unfold nsP
    split <;> first | exact hP | (exfalso; simp_all; done)
theorem FsL.low {N M : Nat} {W : World} {SB RB n : Nat} {s : Sa.Wk} {mv : Value} {r : Nat → Int} (h : FsL N W SB RB n s mv r) (hM : M ≤ N) : FsL M W SB RB n s mv r := ⟨h.k, Nat.le_trans hM h.lo, World.ownsRow.mono h.o hM, h.r.low hM, h.a, h.pl⟩
theorem flNewSet_any {n : Nat} (hn : n ≤ 4096) (w : World) : Calls Try.prog 39 #[.int .i64 (n : Int)] w fun e w' => ∃ SB RB mv, e = .returned (.pointer (some ⟨SB, 0, none⟩)) ∧ FsL w.heap.size w' SB RB n Sa.wk0 mv (fun _ => 0) ∧ w.grownBy w' none := by
  have hn9 : (n : Int) ≤ 8796093022208 := by omega
  obtain ⟨S, hS⟩ : ∃ S, S = w.heap.size := ⟨_, rfl⟩
  have HS : Hid (S = w.heap.size) := hS
  rw [← hS]
  clear hS
  go_enter Try.func39, Try.ntmps39
  go_wp2_with fail
  refine region_lfG (fun _ W => w.drew.grownBy W none) (fun _ w1 w2 => w1.grownBy w2 none) (nsP S n w.drew) nsG 7 rfl
    (fun i V V' W hi h1 h2 h3 => nsP_cong h1 (fun h9 => by subst h9; exact ⟨h2 1 (by kernel_rfl), h2 3 (by kernel_rfl)⟩) (fun h9 => h2 4 (by subst h9; kernel_rfl)) (fun h9 => h2 5 (by subst h9; kernel_rfl)) h3)
    (fun V V' W h1 h2 => by unfold nsG at h2 ⊢; rw [← h1 1 (by omega), ← h1 3 (by omega)]; exact h2)
    (fun i j W W' hi hj hne hc hT hK => grown_trans hK hT)
    (fun i j V W W' hi hj hne hc hT hP => nsP_keep hT hP)
    (by kernel_rfl) (by kernel_rfl) (by kernel_rfl) (by kernel_rfl) (by kernel_rfl) (fun i hi => World.grownBy.refl _ _) ⟨fun q hq => ?_, fun q hq => ?_⟩ (fun U => ?_)
  · exact absurd hq (by rw [show valOf _ _ _ = undef from rfl]; simp [Value.ownBlock, undef])
  · exact absurd hq (by rw [show valOf _ _ _ = undef from rfl]; simp [Value.ownBlock, undef])
  refine lfl_consG 1 rfl (fun W hK hG hd => ?_) ?_
  · exact stepFG_val rfl rfl (v := .int .i64 n) (w' := W) (by simp [go_sem]) (World.grownBy.refl _ _) (upV_at U 0 _) (nsG_other hG (Nat.le_refl _) (by decide) (by decide))
  simp only [Act.put, List.setIfInBounds_toArray, List.set_cons_succ, List.set_cons_zero]
  refine lfl_consG 2 rfl (fun W hK hG hd => ?_) ?_
  · have e0 : U 0 = .int .i64 n := hd 0 (by kernel_rfl)
    obtain ⟨w', hr, r1, r2, r3⟩ := run_make_z W n hn9
    refine stepFG_val rfl rfl (v := .slice (some ⟨W.heap.size, 0, none⟩) 0 n) (w' := w') (by simp [execOp, hr, Act.eval, e0, Result.andThen]) r2 ⟨_, upV_at U 1 _, by rw [upV_at]; exact World.ownsRow.mono r1 (by rw [HS.out]; exact hK.size)⟩ ?_
    unfold nsG
    rw [upV_at, upV_ne (show (3 : Nat) ≠ 1 by decide)]
    refine ⟨fun q hq => ?_, fun q hq => Nat.lt_trans (hG.2 q hq) r3⟩
    simp [Value.ownBlock] at hq
    subst hq
    exact ⟨r3, fun e => Nat.lt_irrefl _ (hG.2 _ e)⟩
  simp only [Act.put, List.setIfInBounds_toArray, List.set_cons_succ, List.set_cons_zero]
  refine lfl_consG 3 rfl (fun W hK hG hd => ?_) ?_
  · exact stepFG_val rfl rfl (v := .int .i64 n) (w' := W) (by simp [go_sem]) (World.grownBy.refl _ _) (upV_at U 2 _) (nsG_other hG (Nat.le_refl _) (by decide) (by decide))
  simp only [Act.put, List.setIfInBounds_toArray, List.set_cons_succ, List.set_cons_zero]
  refine lfl_consG 4 rfl (fun W hK hG hd => ?_) ?_
  · have e2 : U 2 = .int .i64 n := hd 2 (by kernel_rfl)
    obtain ⟨w', hr, r1, r2⟩ := run_make_n W n hn9
    have r3 : W.heap.size < w'.heap.size := by have := r1.lt W.heap.size rfl; exact this
    refine stepFG_val rfl rfl (v := .slice (some ⟨W.heap.size, 0, none⟩) n n) (w' := w') (by simp [execOp, hr, Act.eval, e2, Result.andThen]) r2 ⟨_, upV_at U 3 _, by rw [upV_at]; exact r1.low (by rw [HS.out]; exact hK.size)⟩ ?_
    unfold nsG
    rw [upV_at, upV_ne (show (1 : Nat) ≠ 3 by decide)]
    refine ⟨fun q hq => ⟨Nat.lt_trans (hG.1 q hq).1 r3, fun e => ?_⟩, fun q hq => ?_⟩
    · simp [Value.ownBlock] at e
      have := (hG.1 q hq).1
      omega
    · simp [Value.ownBlock] at hq
      omega
  simp only [Act.put, List.setIfInBounds_toArray, List.set_cons_succ, List.set_cons_zero]
  refine lfl_consG 5 rfl (fun W hK hG hd => ?_) ?_
  · obtain ⟨q1, e1, -⟩ := hd 1 (by kernel_rfl)
    obtain ⟨q3, e3, -⟩ := hd 3 (by kernel_rfl)
    exact stepFG_val rfl rfl (v := .agg #[.slice (some ⟨q1, 0, none⟩) 0 n, .slice (some ⟨q3, 0, none⟩) n n]) (w' := W) (by simp [go_sem, e1, e3]) (World.grownBy.refl _ _) ⟨q1, q3, by rw [upV_ne (by decide)]; exact e1, by rw [upV_ne (by decide)]; exact e3, upV_at U 4 _⟩ (nsG_other hG (Nat.le_refl _) (by decide) (by decide))
  simp only [Act.put, List.setIfInBounds_toArray, List.set_cons_succ, List.set_cons_zero]
  refine lfl_consG 6 rfl (fun W hK hG hd => ?_) ?_
  · obtain ⟨q1, q3, -, -, e4⟩ := hd 4 (by kernel_rfl)
    exact stepFG_val rfl rfl (v := .pointer (some ⟨W.heap.size, 0, none⟩)) (w' := W.alloc (.cells #[.slice (some ⟨q1, 0, none⟩) 0 n, .slice (some ⟨q3, 0, none⟩) n n] 67)) (by simp [go_sem, e4]) (World.grownBy_alloc _ _ _) ⟨W.heap.size, q1, q3, upV_at U 5 _, by rw [HS.out]; exact hK.size, Bk.new _ _ _, by rw [upV_ne (by decide)]; exact e4⟩ (nsG_other hG (World.grownBy_alloc W _ none).size (by decide) (by decide))
  simp only [Act.put, List.setIfInBounds_toArray, List.set_cons_succ, List.set_cons_zero]
  refine lfl_consG 7 rfl (fun W hK hG hd => ?_) ?_
  · obtain ⟨q5, _, _, e5, -⟩ := hd 5 (by kernel_rfl)
    exact stepFG_val rfl rfl (v := U 5) (w' := W) (by simp [go_sem, e5]) (World.grownBy.refl _ _) ⟨by rw [upV_at, upV_ne (by decide)], hK⟩ (nsG_other hG (Nat.le_refl _) (by decide) (by decide))
  simp only [Act.put, List.setIfInBounds_toArray, List.set_cons_succ, List.set_cons_zero]
  refine lfl_nilG fun W8 hg8 hall => ?_
  obtain ⟨M, e1, hm⟩ := hall 1 (by decide)
  obtain ⟨RB, e3, hr⟩ := hall 3 (by decide)
  obtain ⟨q1, q3, f1, f3, f4⟩ := hall 4 (by decide)
  obtain ⟨SB, z1, z3, e5, hS, hb, f5⟩ := hall 5 (by decide)
  obtain ⟨e6, hG6⟩ := hall 6 (by decide)
  have hMR : M ≠ RB := fun e => (hg8.1 M (by rw [e1]; rfl)).2 (by rw [e3, e]; rfl)
  rw [e1] at hm f1
  rw [e3] at hr f3
  rw [f4, ← f1, ← f3] at f5
  injection f5 with f5
  simp only [Array.mk.injEq, List.cons.injEq, and_true] at f5
  rw [← f5.1, ← f5.2] at hb
  have HK : Hid (w.grownBy W8 none) := grown_trans (grown_drew (World.grownBy.refl _ _)) hG6
  have HFs : Hid (FsL S W8 SB RB n Sa.wk0 (.slice (some ⟨M, 0, none⟩) 0 n) (fun _ => 0)) := ⟨hb, hS, hm, hr, fun q hq => by simp [Value.ownBlock] at hq; subst hq; exact hMR, fun b hb => ⟨Int.le_refl _, fun e => absurd rfl e⟩⟩
  rw [e6, e5]
  clear hall hg8 e1 e3 e5 e6 f1 f3 f4 f5 hm hr hb hMR hS hG6
  go_wp2_with fail
  refine bodyPost_ret (by simp [results, Try.results39, go_sem]; try rfl) rfl ?_
  exact ⟨SB, RB, _, rfl, HFs.out, HK.out⟩
theorem flNewWalk_any {NN : Nat} {bs : List Sa.Bl} {w : World} {a : Option Addr} {k : Nat} (hN : NN ≤ w.heap.size) (h : BlL (· < NN) w a k bs) (hsd : Sa.Leads bs) (h0 : 0 < bs.length) (hble : bs.length ≤ 4096) : Calls Try.prog 28 #[.slice a bs.length k] w fun r w' => ∃ PB BX FB WB SB RB, r = .returned (.pointer (some ⟨WB, 0, none⟩)) ∧ FwAt w.heap.size w' PB BX FB WB SB RB bs.length a k (Sa.fwalk bs).1 (Sa.fwalk bs).2 ∧ w.grownBy w' none := by
  obtain ⟨N, hNe⟩ : ∃ N, N = w.heap.size := ⟨_, rfl⟩
  have HN : Hid (N = w.heap.size) := hNe
  have HBL : Hid (∀ W, w.grownBy W none → BlL (· < N) W a k bs) := fun W g => by rw [hNe]; exact (h.grow g).wide hN
  have hmf : ∀ (fn : Fn) (first cap : Array Value) (w : World), (Instr.makeFunc fn first cap).run Try.prog w = .ok (.func fn first cap) w := fun _ _ _ _ => rfl
  have HG0 : Hid (w.grownBy (w.alloc (Obj.cells #[.slice a bs.length k] 26)) none) := World.grownBy_alloc _ _ _
  have HB0 : Hid (Bk (w.alloc (Obj.cells #[.slice a bs.length k] 26)) w.heap.size 26 [.slice a bs.length k]) := Bk.new _ _ _
  have HNs : Hid (∀ W, Calls Try.prog 39 #[.int .i64 (bs.length : Int)] W fun e w' => ∃ SB RB mv, e = .returned (.pointer (some ⟨SB, 0, none⟩)) ∧ FsL W.heap.size w' SB RB bs.length Sa.wk0 mv (fun _ => 0) ∧ W.grownBy w' none) := fun W => flNewSet_any hble W
  rw [← hNe]
  clear h hN hNe
  go_enter Try.func28, Try.ntmps28
  go_wp2_with (go_at_call 39; refine (HNs.out _).mono ?_; rintro e w1 ⟨SB, RB, mv, rfl, hs1, g1⟩; have HS1 : Hid (FsL (w.alloc (Obj.cells #[.slice a bs.length k] 26)).heap.size w1 SB RB bs.length Sa.wk0 mv (fun _ => 0)) := hs1; have HG1 : Hid ((w.alloc (Obj.cells #[.slice a bs.length k] 26)).grownBy w1 none) := g1; clear hs1 g1)
  obtain ⟨FB, hFB⟩ : ∃ FB, FB = w1.heap.size + 1 + 1 := ⟨_, rfl⟩
  rw [← hFB]
  obtain ⟨PB, hPB⟩ : ∃ PB, PB = w1.heap.size + 1 := ⟨_, rfl⟩
  rw [← hPB]
  obtain ⟨WB, hWB⟩ : ∃ WB, WB = w1.heap.size := ⟨_, rfl⟩
  rw [← hWB]
  obtain ⟨BX, hBX⟩ : ∃ BX, BX = w.heap.size := ⟨_, rfl⟩
  rw [← hBX] at HB0 ⊢
  obtain ⟨W5, hW5⟩ : ∃ W5, W5 = ((w1.alloc (Obj.cells #[.pointer (some ⟨SB, 0, none⟩), .slice none 0 0, .slice none 0 0] 64)).alloc (Obj.cells #[.pointer (some ⟨WB, 0, none⟩)] 60)).alloc (Obj.cells #[(.func (.func 40) #[] #[.pointer (some ⟨PB, 0, none⟩), .pointer (some ⟨BX, 0, none⟩), .pointer (some ⟨FB, 0, none⟩)])] 76) := ⟨_, rfl⟩
  rw [← hW5]
  have k1 : Bk (w1.alloc (Obj.cells #[.pointer (some ⟨SB, 0, none⟩), .slice none 0 0, .slice none 0 0] 64)) WB 64 [.pointer (some ⟨SB, 0, none⟩), .slice none 0 0, .slice none 0 0] := by rw [hWB]; exact Bk.new _ _ _
  have k2 : Bk ((w1.alloc (Obj.cells #[.pointer (some ⟨SB, 0, none⟩), .slice none 0 0, .slice none 0 0] 64)).alloc (Obj.cells #[.pointer (some ⟨WB, 0, none⟩)] 60)) PB 60 [.pointer (some ⟨WB, 0, none⟩)] := by
    have e : PB = (w1.alloc (Obj.cells #[.pointer (some ⟨SB, 0, none⟩), .slice none 0 0, .slice none 0 0] 64)).heap.size := by rw [hPB]; exact (Array.size_push _).symm
    rw [e]; exact Bk.new _ _ _
  have k3 : Bk W5 FB 76 [.func (.func 40) #[] #[.pointer (some ⟨PB, 0, none⟩), .pointer (some ⟨BX, 0, none⟩), .pointer (some ⟨FB, 0, none⟩)]] := by
    have e : FB = ((w1.alloc (Obj.cells #[.pointer (some ⟨SB, 0, none⟩), .slice none 0 0, .slice none 0 0] 64)).alloc (Obj.cells #[.pointer (some ⟨WB, 0, none⟩)] 60)).heap.size := by
      rw [hFB]
      show _ = ((w1.heap.push _).push _).size
      rw [Array.size_push, Array.size_push]
    have e2 := Bk.new ((w1.alloc (Obj.cells #[.pointer (some ⟨SB, 0, none⟩), .slice none 0 0, .slice none 0 0] 64)).alloc (Obj.cells #[.pointer (some ⟨WB, 0, none⟩)] 60)) 76 [.func (.func 40) #[] #[.pointer (some ⟨PB, 0, none⟩), .pointer (some ⟨BX, 0, none⟩), .pointer (some ⟨FB, 0, none⟩)]]
    rw [← e] at e2
    rw [hW5]; exact e2
  have g1 : w1.grownBy W5 none := by rw [hW5]; exact grown_trans (grown_trans (World.grownBy_alloc _ _ _) (World.grownBy_alloc _ _ _)) (World.grownBy_alloc _ _ _)
  have g5 : w.grownBy W5 none := grown_trans (grown_trans HG0.out HG1.out) g1
  have hsz : N ≤ (w.alloc (Obj.cells #[.slice a bs.length k] 26)).heap.size := by rw [HN.out]; exact HG0.out.size
  have hL : FwL N W5 PB BX FB WB SB RB bs.length a k Sa.wk0 Sa.wk0.parent [] mv (.slice none 0 0) (.slice none 0 0) (fun _ => 0) :=
    ⟨(HS1.out.grow g1).low hsz, by rw [hW5]; exact (k1.grow (World.grownBy_alloc _ _ _)).grow (World.grownBy_alloc _ _ _), by have := HG1.out.size; omega, World.ownsRow_nil _ _ _ _, World.ownsRow_nil _ _ _ _, by rw [hW5]; exact k2.grow (World.grownBy_alloc _ _ _), HB0.out.grow (grown_trans HG1.out g1), k3, fun z hz => by simp [Value.ownBlock] at hz, fun z hz => by simp [Value.ownBlock] at hz⟩
  have HV : Hid (Calls Try.prog 40 #[.int .i64 0, .int .i64 (-1), .pointer (some ⟨PB, 0, none⟩), .pointer (some ⟨BX, 0, none⟩), .pointer (some ⟨FB, 0, none⟩)] W5 fun r w' => r = .returned (.tuple #[]) ∧ FwAt N w' PB BX FB WB SB RB bs.length a k (Sa.fwalk bs).1 (Sa.fwalk bs).2 ∧ Below N W5 w') := flVisit_any hsd hble bs.length (s := Sa.wk0) (post := []) (b := 0) (p := -1) (by simp) h0 rfl ⟨by omega, by simp [Sa.wk0], by simp [Sa.wk0]⟩ (Sa.wk0_ok _) (Nat.zero_le _) (by rw [HN.out]; exact g5.size) (HBL.out _ g5) ⟨_, _, _, _, hL⟩
  have HG5 : Hid (w.grownBy W5 none) := g5
  clear hL hsz g5 g1 k1 k2 k3 hW5 hBX hWB hPB hFB
  refine HV.out.mono ?_
  rintro e w6 ⟨rfl, hA6, hB6⟩
  have HA6 : Hid (FwAt N w6 PB BX FB WB SB RB bs.length a k (Sa.fwalk bs).1 (Sa.fwalk bs).2) := hA6
  have HG6 : Hid (w.grownBy w6 none) := belowNone ((Below.trans (show Below w.heap.size w W5 from (Ch.of (l := []) HG5.out).below (Nat.le_refl _) (by simp)) (by rw [← HN.out]; exact hB6)))
  obtain ⟨mv6, pv6, qv6, r6, hL6⟩ := hA6
  have y0 := hL6.b.cell (i := 0) rfl
  clear hL6 hB6
  go_wp2_with fail
  refine bodyPost_ret (by simp [results, Try.results28, go_sem]; try rfl) rfl ?_
  exact ⟨PB, BX, FB, WB, SB, RB, rfl, HA6.out, HG6.out⟩
end Go.Proofs.Ytbpdggdpgohilaa
