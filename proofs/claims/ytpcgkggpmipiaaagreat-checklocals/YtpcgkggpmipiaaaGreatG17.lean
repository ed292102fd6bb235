/- check's terms. -/
import Derived.Test.YtpcgkggpmipiaaaGreatG16
import Derived.Test.YtpcgkggpmipiaaaGreatRuLu
namespace Go.Proofs.YtpcgkggpmipiaaaGreat
open Go.RowKit
set_option linter.unusedVariables false
set_option maxRecDepth 100000
set_option maxHeartbeats 8000000
theorem bits_parts (a b d p q r : Bool) : (bits BinOp.andNot IntKind.i64 (Ck.pI a b d) (Ck.pI p q r) == 0) = ((!a || p) && (!b || q) && (!d || r)) := by
 cases a <;> cases b <;> cases d <;> cases p <;> cases q <;> cases r <;> decide
theorem bits_T (p q r : Bool) : (bits BinOp.and IntKind.i64 (Ck.pI p q r) 1 == 0) = !p := by
 cases p <;> cases q <;> cases r <;> decide
theorem tfn_mem {op n : Int} {x : Bool × Bool × Bool × Int} (hr : Ck.trow op n = some x) : tfn op n ∈ [161, 162, 163, 164, 113, 114, 115, 116, 119, 120, 121, 122, 123, 124, 125, 126, 127, 128, 129, 130] := by
 by_cases hop : 1 ≤ op ∧ op ≤ 19
 case neg =>
  have hr2 : Ck.trow op n = none := by unfold Ck.trow; repeat rw [if_neg (by omega)]
  rw [hr2] at hr; cases hr
 obtain rfl | rfl | rfl | rfl | rfl | rfl | rfl | rfl | rfl | rfl | rfl | rfl | rfl | rfl | rfl | rfl | rfl | rfl | rfl : op = 1 ∨ op = 2 ∨ op = 3 ∨ op = 4 ∨ op = 5 ∨ op = 6 ∨ op = 7 ∨ op = 8 ∨ op = 9 ∨ op = 10 ∨ op = 11 ∨ op = 12 ∨ op = 13 ∨ op = 14 ∨ op = 15 ∨ op = 16 ∨ op = 17 ∨ op = 18 ∨ op = 19 := by omega
 all_goals first
  | (simp [tfn]; done)
  | (by_cases h8 : n ≤ 8 <;> by_cases h10 : n ≤ 10 <;> simp [tfn, h8, h10])
theorem tfn_call {op n : Int} {x : Bool × Bool × Bool × Int} (hr : Ck.trow op n = some x) (args : Array Value) (W : World) : Sem.run Tryz.prog (callFunc (tfn op n) args) W = .ok (.enter (tfn op n) args) W := by
 have h := tfn_mem hr
 generalize tfn op n = f at h
 simp only [List.mem_cons, List.not_mem_nil, or_false] at h
 rcases h with rfl | rfl | rfl | rfl | rfl | rfl | rfl | rfl | rfl | rfl | rfl | rfl | rfl | rfl | rfl | rfl | rfl | rfl | rfl | rfl
 all_goals first | rfl | simp [go_sem] | simp [callFunc, go_sem]
theorem Sc.set8 {N : Nat} {w : World} {SB : Nat} {c : Ck.En} {A : ScA} {loops nodes deep : Int} (h : Sc N w SB c A loops nodes deep) (x : Int) : Sc N (w.setCell ⟨SB, 8, none⟩ (.int .i64 x)) SB c A loops x deep :=
 have g : Ch w (w.setCell ⟨SB, 8, none⟩ (.int .i64 x)) [SB] := Ch.one (grown_set _ _ _ _) (by simp)
 have hl : ∀ k, k ∈ [SB] → N ≤ k := fun k hk => by have := h.nb; simp at hk; omega
 ⟨h.k.set 8 _, h.tb.ch g hl, h.lo.ch g hl, h.re.ch g hl, h.nb⟩
theorem Sc.set9 {N : Nat} {w : World} {SB : Nat} {c : Ck.En} {A : ScA} {loops nodes deep : Int} (h : Sc N w SB c A loops nodes deep) (x : Int) : Sc N (w.setCell ⟨SB, 9, none⟩ (.int .i64 x)) SB c A loops nodes x :=
 have g : Ch w (w.setCell ⟨SB, 9, none⟩ (.int .i64 x)) [SB] := Ch.one (grown_set _ _ _ _) (by simp)
 have hl : ∀ k, k ∈ [SB] → N ≤ k := fun k hk => by have := h.nb; simp at hk; omega
 ⟨h.k.set 9 _, h.tb.ch g hl, h.lo.ch g hl, h.re.ch g hl, h.nb⟩
structure T5 (N : Nat) (w W : World) (SB : Nat) (c : Ck.En) (A : ScA) (loops nodes deep : Int) (B3 : Nat) (l : List Value) : Prop where
 s : Sc N W SB c A loops nodes deep
 x : Bk W B3 45 l
 g : Ch w W [SB]
theorem T5.grow {N : Nat} {w W W' : World} {SB : Nat} {c : Ck.En} {A : ScA} {loops nodes deep : Int} {B3 : Nat} {l : List Value} (h : T5 N w W SB c A loops nodes deep B3 l) (g : W.grownBy W' none) : T5 N w W' SB c A loops nodes deep B3 l := ⟨h.s.grow g, h.x.grow g, h.g.trans (Ch.of g)⟩
theorem ckTerm_none {op t n : Int} {s : ByteArray} {args : List Pg.Ex} (hr : Ck.trow op n = none) : TmX (.mk op t n s args) := by
 intro N w SB c A loops nodes deep a k hc h hl hsz hn0 hn1 hd0 hd1
 have e1 := Pg.Ex.nd_eq (.mk op t n s args)
 simp only [Pg.Ex.op, Pg.Ex.t, Pg.Ex.n, Pg.Ex.s, Pg.Ex.args] at hl hsz e1 ⊢
 obtain ⟨R, hR⟩ : ∃ R, R = Ck.tm c (.mk op t n s args) := ⟨_, rfl⟩
 have HR : Hid (R = (do Ck.pre c op t n s.size args.length; let l ← Ck.tms c args; Ck.ask c op t n l)) := by show _ = _; rw [hR, Ck.tm]
 rw [← hR]
 clear hR
 generalize (Pg.Ex.mk op t n s args).dl.nd = nd at *
 generalize (Pg.Ex.mk op t n s args).dl.dp = dp at *
 have hle := hl.le
 have hmx := hl.max
 unfold maxLen at hmx
 have hSlt := h.k.lt
 have hNB := h.nb
 have HW0 : Hid (Ch w w [SB]) := Ch.of (World.grownBy.refl _ _)
 have g1 : w.grownBy (w.alloc (Obj.cells #[.int .i64 op, .int .i64 t, .int .i64 n, .string s, .slice a args.length k] 45)) none := World.grownBy_alloc _ _ _
 have hS1 := h.grow g1
 have k8 := hS1.k.cell (i := 8) rfl
 have f8 := hS1.k.frozen 8
 have hS8 := h.set8 (nodes + 1)
 have hS85 := hS8.grow (World.grownBy_alloc _ (Obj.cells #[.int .i64 op, .int .i64 t, .int .i64 n, .string s, .slice a args.length k] 45) none)
 have k9 := hS85.k.cell (i := 9) rfl
 have f9 := hS85.k.frozen 9
 have hS9 := hS8.set9 (deep + 1)
 have hS2 := hS9.grow (World.grownBy_alloc _ (Obj.cells #[.int .i64 op, .int .i64 t, .int .i64 n, .string s, .slice a args.length k] 45) none)
 have k82 := hS2.k.cell (i := 8) rfl
 have k92 := hS2.k.cell (i := 9) rfl
 have hC2 : Ch w (((w.setCell ⟨SB, 8, none⟩ (.int .i64 (nodes + 1))).setCell ⟨SB, 9, none⟩ (.int .i64 (deep + 1))).alloc (Obj.cells #[.int .i64 op, .int .i64 t, .int .i64 n, .string s, .slice a args.length k] 45)) [SB] := ((Ch.one (grown_set _ _ _ _) (by simp)).trans (Ch.one (grown_set _ _ _ _) (by simp))).trans (Ch.of (World.grownBy_alloc _ _ _))
 have kb2 : Bk (((w.setCell ⟨SB, 8, none⟩ (.int .i64 (nodes + 1))).setCell ⟨SB, 9, none⟩ (.int .i64 (deep + 1))).alloc (Obj.cells #[.int .i64 op, .int .i64 t, .int .i64 n, .string s, .slice a args.length k] 45)) w.heap.size 45 [.int .i64 op, .int .i64 t, .int .i64 n, .string s, .slice a args.length k] := by have h9 := Bk.new ((w.setCell ⟨SB, 8, none⟩ (.int .i64 (nodes + 1))).setCell ⟨SB, 9, none⟩ (.int .i64 (deep + 1))) 45 [.int .i64 op, .int .i64 t, .int .i64 n, .string s, .slice a args.length k]; simpa using h9
 have x0 := kb2.cell (i := 0) rfl
 have x1 := kb2.cell (i := 1) rfl
 have x2 := kb2.cell (i := 2) rfl
 have x3 := kb2.cell (i := 3) rfl
 have x4 := kb2.cell (i := 4) rfl
 obtain ⟨W2, hW2⟩ : ∃ W, W = (((w.setCell ⟨SB, 8, none⟩ (.int .i64 (nodes + 1))).setCell ⟨SB, 9, none⟩ (.int .i64 (deep + 1))).alloc (Obj.cells #[.int .i64 op, .int .i64 t, .int .i64 n, .string s, .slice a args.length k] 45)) := ⟨_, rfl⟩
 obtain ⟨B3, hB3⟩ : ∃ B, B = w.heap.size := ⟨_, rfl⟩
 have hT2 : T5 N w W2 SB c A loops (nodes + 1) (deep + 1) B3 [.int .i64 op, .int .i64 t, .int .i64 n, .string s, .slice a args.length k] := by rw [hW2, hB3]; exact ⟨hS2, kb2, hC2⟩
 have HT2 : Hid (T5 N w W2 SB c A loops (nodes + 1) (deep + 1) B3 [.int .i64 op, .int .i64 t, .int .i64 n, .string s, .slice a args.length k]) := hT2
 have HB3 : Hid (w.heap.size = B3) := hB3.symm
 have HW2 : Hid ((((w.setCell ⟨SB, 8, none⟩ (.int .i64 (nodes + 1))).setCell ⟨SB, 9, none⟩ (.int .i64 (deep + 1))).alloc (Obj.cells #[.int .i64 op, .int .i64 t, .int .i64 n, .string s, .slice a args.length k] 45)) = W2) := hW2.symm
 have hB3s : SB < B3 := by omega
 have d1 : decide (nodes + 1 < 33554432) = true := by simp; omega
 have d2 : decide (deep + 1 < 65536) = true := by simp; omega
 have HM : Hid (∀ (b : Bool) (e : Int) W, Calls Tryz.prog 42 #[.bool b, .int .i64 e] W fun r w' => r = (bif b then .returned (.tuple #[]) else ckF e) ∧ w' = W) := ckMust_any
 have HRow : Hid (∀ W, Calls Tryz.prog 75 #[exV op t n s a args.length k] W fun r w' => r = .returned (rowA 0 0 .nilFunc) ∧ W.grownBy w' none) := fun W => by
  have h9 := ckRow_any op t n s a args.length k W
  unfold rowV at h9
  rw [hr] at h9
  exact h9
 have HRr : Hid (Ck.trow op n = none) := hr
 clear hB3 hW2 g1 kb2 hS1 hS8 hS85 hS9 hS2 hC2 h hl hc hr hT2
 go_enter Tryz.func45, Tryz.ntmps45
 go_wp2_with (first | (go_at_call 42; refine (HM.out _ _ _).mono ?_; rintro e w3 ⟨rfl, hw3⟩; rw [hw3]; clear hw3 w3; simp only [cond_true]) | (go_at_call 75; rw [HW2.out, HB3.out]; refine (HRow.out _).mono ?_; rintro e w4 ⟨rfl, hg4⟩; have HT4 : Hid (T5 N w w4 SB c A loops (nodes + 1) (deep + 1) B3 [.int .i64 op, .int .i64 t, .int .i64 n, .string s, .slice a args.length k]) := HT2.out.grow hg4; clear hg4))
 obtain ⟨W5, hW5⟩ : ∃ W, W = (w4.alloc (Obj.cells #[.int .i64 0, .int .i64 0, .nilFunc] 122)) := ⟨_, rfl⟩
 obtain ⟨B5, hB5⟩ : ∃ B, B = w4.heap.size := ⟨_, rfl⟩
 rw [← hW5, ← hB5]
 have HT5 : Hid (T5 N w W5 SB c A loops (nodes + 1) (deep + 1) B3 [.int .i64 op, .int .i64 t, .int .i64 n, .string s, .slice a args.length k]) := by rw [hW5]; exact HT4.out.grow (World.grownBy_alloc _ _ _)
 have HK5 : Hid (Bk W5 B5 122 [.int .i64 0, .int .i64 0, .nilFunc]) := by rw [hW5, hB5]; exact Bk.new _ _ _
 have hB5s : SB < B5 := by have := HT4.out.g.size; omega
 have hB35 : B3 < B5 := by have := HT4.out.x.lt; omega
 clear hW5 hB5 HT4
 have HX : Hid (∀ W, W5.grownBy W none → W.cell? ⟨B5, 2, none⟩ = some .nilFunc) := fun W g => (HK5.out.grow g).cell (i := 2) rfl
 refine region_lg 11 (World.grownBy.refl _ _) (by kernel_rfl) (by kernel_rfl) (by kernel_rfl) (by kernel_rfl) ?_
 simp only [List.take_succ_cons, List.take_zero]
 repeat (first
  | (refine lx_end fun W0 GR => ?_)
  | (refine lx_no ?_ ?_ ?_; (· simp [Region.wanted, yielded]; done); (· kernel_rfl); simp only [Act.put, List.setIfInBounds_toArray, List.set_cons_succ, List.set_cons_zero])
  | (refine lx_val (v := ?_) ?_ ?_ ?_ ?_; rotate_left; (· kernel_rfl); (· exact ⟨by kernel_rfl, rfl⟩); (· intro W g; simp [go_sem, HX.out W g]; rfl); simp only [Act.put, List.setIfInBounds_toArray, List.set_cons_succ, List.set_cons_zero]))
 simp only [List.drop_succ_cons, List.drop_zero]
 go_wp2_with (go_at_call 42; refine (HM.out _ _ _).mono ?_; rintro e w3 ⟨rfl, hw3⟩; rw [hw3]; clear hw3 w3; simp only [cond_false])
 exact ⟨rfl, by rw [HR.out]; simp [Ck.pre, HRr.out, ckE, bind, Except.bind], (HT5.out.grow GR).g, by rw [HR.out]; simp [Ck.pre, HRr.out, bind, Except.bind]⟩
end Go.Proofs.YtpcgkggpmipiaaaGreat
