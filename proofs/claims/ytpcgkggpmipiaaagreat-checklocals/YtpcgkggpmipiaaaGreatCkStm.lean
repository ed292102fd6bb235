/- check's statements. -/
import Derived.Test.YtpcgkggpmipiaaaGreatG19
namespace Go.Proofs.YtpcgkggpmipiaaaGreat
open Go.RowKit
set_option linter.unusedVariables false
set_option maxRecDepth 100000
set_option maxHeartbeats 8000000
theorem ckStm_some (hcall : CallOk) {op n : Int} {args : List Pg.Ex} {dst : List Int} {xa xb : List Pg.St} (iha : ∀ y, y ∈ xa → StX y) (ihb : ∀ y, y ∈ xb → StX y) {pN pD pA pB : Bool} {m : Int} (hr : Ck.srow op = some (pN, pD, pA, pB, m)) : StX (.mk op n args dst xa xb) := by
 intro N w SB c A lp nodes deep a1 a2 a3 a4 k1 k2 k3 k4 hc hf h hl hds hsa hsb hn0 hn1 hd0 hd1 hlp
 have e1 := Pg.St.nd_eq (.mk op n args dst xa xb)
 simp only [Pg.St.op, Pg.St.n, Pg.St.args, Pg.St.dst, Pg.St.a, Pg.St.b] at hl hds hsa hsb e1 ⊢
 obtain ⟨R, hR⟩ : ∃ R, R = Ck.sm c lp (.mk op n args dst xa xb) := ⟨_, rfl⟩
 have HR : Hid (R = (do Ck.spre op n args.length dst.length xa.length xb.length; let l ← Ck.tms c args; Ck.sask c lp op n dst l; Ck.sms c (if op = 4 then lp + 1 else lp) xa; Ck.sms c (if op = 4 then lp + 1 else lp) xb)) := by show _ = _; rw [hR, Ck.sm]
 rw [← hR]
 clear hR
 generalize (Pg.St.mk op n args dst xa xb).dl.nd = nd at *
 generalize (Pg.St.mk op n args dst xa xb).dl.dp = dp at *
 have hle := hl.le
 have hmx := hl.max
 unfold maxLen at hmx
 have hSlt := h.s.k.lt
 have hNB := h.s.nb
 have g1 : w.grownBy (w.alloc (Obj.cells #[.int .i64 op, .int .i64 n, .slice a1 args.length k1, .slice a2 dst.length k2, .slice a3 xa.length k3, .slice a4 xb.length k4] 51)) none := World.grownBy_alloc _ _ _
 have hT1 : S5 N w (w.alloc (Obj.cells #[.int .i64 op, .int .i64 n, .slice a1 args.length k1, .slice a2 dst.length k2, .slice a3 xa.length k3, .slice a4 xb.length k4] 51)) SB c A lp nodes deep w.heap.size [.int .i64 op, .int .i64 n, .slice a1 args.length k1, .slice a2 dst.length k2, .slice a3 xa.length k3, .slice a4 xb.length k4] := ⟨h.grow g1, Bk.new _ _ _, Ch.of g1⟩
 have x0 := hT1.x.cell (i := 0) rfl
 obtain ⟨W2, hW2⟩ : ∃ W, W = (w.alloc (Obj.cells #[.int .i64 op, .int .i64 n, .slice a1 args.length k1, .slice a2 dst.length k2, .slice a3 xa.length k3, .slice a4 xb.length k4] 51)) := ⟨_, rfl⟩
 obtain ⟨B3, hB3⟩ : ∃ B, B = w.heap.size := ⟨_, rfl⟩
 have HT2 : Hid (S5 N w W2 SB c A lp nodes deep B3 [.int .i64 op, .int .i64 n, .slice a1 args.length k1, .slice a2 dst.length k2, .slice a3 xa.length k3, .slice a4 xb.length k4]) := by rw [hW2, hB3]; exact hT1
 have HB3 : Hid (w.heap.size = B3) := hB3.symm
 have HW2 : Hid ((w.alloc (Obj.cells #[.int .i64 op, .int .i64 n, .slice a1 args.length k1, .slice a2 dst.length k2, .slice a3 xa.length k3, .slice a4 xb.length k4] 51)) = W2) := hW2.symm
 have hB3s : SB < B3 := by omega
 have HM : Hid (∀ (b : Bool) (e : Int) W, Calls Tryz.prog 42 #[.bool b, .int .i64 e] W fun r w' => r = (bif b then .returned (.tuple #[]) else ckF e) ∧ w' = W) := ckMust_any
 obtain ⟨p, hp⟩ : ∃ p, p = Ck.pJ pN pD pA pB := ⟨_, rfl⟩
 obtain ⟨q, hq⟩ : ∃ q, q = sfn op := ⟨_, rfl⟩
 obtain ⟨P, hP⟩ : ∃ P, P = Ck.pJ (n != 0) (decide (0 < dst.length)) (decide (0 < xa.length)) (decide (0 < xb.length)) := ⟨_, rfl⟩
 have HRow : Hid (∀ W, Calls Tryz.prog 147 #[.int .i64 op] W fun r w' => r = .returned (rowA p m (.func (.func q) #[] #[])) ∧ W.grownBy w' none) := fun W => by
  have h9 := ckSRow_any op W
  unfold rowS at h9
  rw [hr] at h9
  rw [hp, hq]
  exact h9
 have HPt : Hid (∀ W, Calls Tryz.prog 148 #[stV op n a1 args.length k1 a2 dst.length k2 a3 xa.length k3 a4 xb.length k4] W fun r w' => r = .returned (.int .i64 P) ∧ W.grownBy w' none) := fun W => by rw [hP]; exact ckSParts_any _ _ _ _ _ _ _ _ _ _ _ _ _ _ W
 obtain ⟨z5, hz5⟩ : ∃ z : Bool, z = ((n == 0 || pN) && (dst.length == 0 || pD) && (xa.length == 0 || pA) && (xb.length == 0 || pB)) := ⟨_, rfl⟩
 have q5 : (bits BinOp.andNot IntKind.i64 P p == 0) = z5 := by
  rw [hz5, hP, hp, bits_partsS]
  have e5 : ∀ q : Nat, (!decide (0 < q)) = (q == 0) := fun q => by cases q <;> simp
  rw [e5, e5, e5]
  simp only [bne, Bool.not_not]
 obtain ⟨z6, hz6⟩ : ∃ z : Bool, z = (m == -1 || m == (args.length : Int)) := ⟨_, rfl⟩
 have HFit : Hid (∀ W, Calls Tryz.prog 77 #[.int .i64 m, .int .i64 (args.length : Int)] W fun r w' => r = .returned (.bool z6) ∧ w' = W) := fun W => by rw [hz6]; exact ckFit_any _ _ W
 have HPre : Hid (Ck.spre op n args.length dst.length xa.length xb.length = (do Ck.must z5 97; Ck.must z6 94)) := by show _ = _; unfold Ck.spre; rw [hr, hz5, hz6]
 have HAs : Hid (∀ W aa ac vs q9, S5 N w W SB c A lp q9 deep B3 [.int .i64 op, .int .i64 n, .slice a1 args.length k1, .slice a2 dst.length k2, .slice a3 xa.length k3, .slice a4 xb.length k4] → z6 = true → vs.length = args.length → (∀ x, x ∈ vs → 0 ≤ x ∧ x < (c.n : Int)) → ∀ M, NumIn M W aa vs.length ac (fun i => vs.getD i 0) → CkS q W SB (stV op n a1 args.length k1 a2 dst.length k2 a3 xa.length k3 a4 xb.length k4) aa vs.length ac (Ck.sask c lp op n dst vs)) := fun W aa ac vs q9 hT h6 hv hn M hl2 => by rw [hq]; exact ckSask hT.s.s op n a1 args.length k1 a2 dst.length k2 a3 xa.length k3 a4 xb.length k4 hr (by rw [hv, ← hz6]; exact h6) (by omega) hn hl2 (hcall hT.s hf n a1 args.length k1 a2 k2 a3 xa.length k3 a4 xb.length k4 (NumL.ch hds hT.g (by intro b hb; simp; omega) (fun _ h => h)) hn hl2)
 have HTs : Hid (∀ W, S5 N w W SB c A lp nodes deep B3 [.int .i64 op, .int .i64 n, .slice a1 args.length k1, .slice a2 dst.length k2, .slice a3 xa.length k3, .slice a4 xb.length k4] → Calls Tryz.prog 79 #[.pointer (some ⟨SB, 0, none⟩), .slice a1 args.length k1] W fun e w' => Ch W w' [SB] ∧ TmsE N W SB c A lp (nodes + (Pg.dCat Pg.Ex.dl args).nd) deep (Ck.tms c args) e w') := fun W hT => ckTerms args (fun y _ => ckTerm y) hc hT.s.s (ExL.ch hl hT.g (by intro b hb; simp; omega) (fun _ h => h)) (by omega) (by omega) (by omega) (by omega)
 have HEnt : Hid (∀ vs, Ck.tms c args = .ok vs → (∀ x, x ∈ vs → 0 ≤ x ∧ x < (c.n : Int)) ∧ vs.length = args.length) := fun vs hv => ⟨Ck.tms_ent hc hv, Ck.tms_len hv⟩
 have HCf : Hid (∀ args W, Sem.run Tryz.prog (callFunc q args) W = .ok (.enter q args) W) := fun args W => by rw [hq]; exact sfn_call hr args W
 have HFn : Hid (∀ W, Ch w W [SB] → FnL (fun b => b < N) W A.fa A.fc c.fs) := fun W g => FnL.ch h.f g (by intro b hb; simp; omega) (fun _ h => h)
 have HSa : Hid (∀ W (l9 : Nat) q9, Ch w W [SB] → Sc N W SB c A l9 q9 deep → l9 ≤ lp + 1 → 0 ≤ q9 → q9 + (Pg.dCat Pg.St.dl xa).nd < 33554432 → Calls Tryz.prog 59 #[.pointer (some ⟨SB, 0, none⟩), .slice a3 xa.length k3] W fun e w' => e = ckE (fun _ => Value.tuple #[]) (Ck.sms c l9 xa) ∧ Ch W w' [SB] ∧ (Ck.sms c l9 xa = .ok () → ∃ nodes', q9 ≤ nodes' ∧ nodes' ≤ q9 + (Pg.dCat Pg.St.dl xa).nd ∧ Sx N w' SB c A l9 nodes' deep)) := fun W l9 q9 g hs hl9 h0 h1 => ckStatements xa iha hc hf ⟨hs, HFn.out W g⟩ (StL.ch hsa g (by intro b hb; simp; omega) (fun _ h => h)) h0 h1 hd0 (by omega) (by omega)
 have HSb : Hid (∀ W (l9 : Nat) q9, Ch w W [SB] → Sc N W SB c A l9 q9 deep → l9 ≤ lp + 1 → 0 ≤ q9 → q9 + (Pg.dCat Pg.St.dl xb).nd < 33554432 → Calls Tryz.prog 59 #[.pointer (some ⟨SB, 0, none⟩), .slice a4 xb.length k4] W fun e w' => e = ckE (fun _ => Value.tuple #[]) (Ck.sms c l9 xb) ∧ Ch W w' [SB] ∧ (Ck.sms c l9 xb = .ok () → ∃ nodes', q9 ≤ nodes' ∧ nodes' ≤ q9 + (Pg.dCat Pg.St.dl xb).nd ∧ Sx N w' SB c A l9 nodes' deep)) := fun W l9 q9 g hs hl9 h0 h1 => ckStatements xb ihb hc hf ⟨hs, HFn.out W g⟩ (StL.ch hsb g (by intro b hb; simp; omega) (fun _ h => h)) h0 h1 hd0 (by omega) (by omega)
 clear hz5 hz6 hp hP hq iha ihb hcall
 clear hB3 hW2 g1 h hl hc hf hds hsa hsb hr hT1
 cases z5
 case false =>
  go_enter Tryz.func95, Tryz.ntmps95
  go_wp2_with (go_at_call 147; rw [HW2.out, HB3.out]; refine (HRow.out _).mono ?_; rintro e w4 ⟨rfl, hg4⟩; have HT4 : Hid (S5 N w w4 SB c A lp nodes deep B3 [.int .i64 op, .int .i64 n, .slice a1 args.length k1, .slice a2 dst.length k2, .slice a3 xa.length k3, .slice a4 xb.length k4]) := HT2.out.grow hg4; clear hg4)
  obtain ⟨W5, hW5⟩ : ∃ W, W = (w4.alloc (Obj.cells #[.int .i64 p, .int .i64 m, .func (.func q) #[] #[]] 168)) := ⟨_, rfl⟩
  obtain ⟨B5, hB5⟩ : ∃ B, B = w4.heap.size := ⟨_, rfl⟩
  rw [← hW5, ← hB5]
  have HT5 : Hid (S5 N w W5 SB c A lp nodes deep B3 [.int .i64 op, .int .i64 n, .slice a1 args.length k1, .slice a2 dst.length k2, .slice a3 xa.length k3, .slice a4 xb.length k4]) := by rw [hW5]; exact HT4.out.grow (World.grownBy_alloc _ _ _)
  have HK5 : Hid (Bk W5 B5 168 [.int .i64 p, .int .i64 m, .func (.func q) #[] #[]]) := by rw [hW5, hB5]; exact Bk.new _ _ _
  have hB5s : SB < B5 := by have := HT4.out.g.size; omega
  have hB35 : B3 < B5 := by have := HT4.out.x.lt; omega
  clear hW5 hB5 HT4
  have HX : Hid (∀ W, W5.grownBy W none → W.cell? ⟨B5, 0, none⟩ = some (.int .i64 p) ∧ W.cell? ⟨B5, 1, none⟩ = some (.int .i64 m) ∧ W.cell? ⟨B5, 2, none⟩ = some (.func (.func q) #[] #[])) := fun W g => ⟨(HK5.out.grow g).cell (i := 0) rfl, (HK5.out.grow g).cell (i := 1) rfl, (HK5.out.grow g).cell (i := 2) rfl⟩
  have HY : Hid (∀ W, W5.grownBy W none → W.cell? ⟨B3, 0, none⟩ = some (.int .i64 op) ∧ W.cell? ⟨B3, 1, none⟩ = some (.int .i64 n) ∧ W.cell? ⟨B3, 2, none⟩ = some (.slice a1 args.length k1) ∧ W.cell? ⟨B3, 3, none⟩ = some (.slice a2 dst.length k2) ∧ W.cell? ⟨B3, 4, none⟩ = some (.slice a3 xa.length k3) ∧ W.cell? ⟨B3, 5, none⟩ = some (.slice a4 xb.length k4)) := fun W g => ⟨(HT5.out.grow g).x.cell (i := 0) rfl, (HT5.out.grow g).x.cell (i := 1) rfl, (HT5.out.grow g).x.cell (i := 2) rfl, (HT5.out.grow g).x.cell (i := 3) rfl, (HT5.out.grow g).x.cell (i := 4) rfl, (HT5.out.grow g).x.cell (i := 5) rfl⟩
  refine region_lg 11 (World.grownBy.refl _ _) (by kernel_rfl) (by kernel_rfl) (by kernel_rfl) (by kernel_rfl) ?_
  simp only [List.take_succ_cons, List.take_zero]
  repeat (first
   | (refine lx_end fun W0 GR => ?_)
   | (refine lx_no ?_ ?_ ?_; (· simp [Region.wanted, yielded]; done); (· kernel_rfl); simp only [Act.put, List.setIfInBounds_toArray, List.set_cons_succ, List.set_cons_zero])
   | (refine lx_val (v := ?_) ?_ ?_ ?_ ?_; rotate_left; (· kernel_rfl); (· exact ⟨by kernel_rfl, rfl⟩); (· intro W g; simp [go_sem, (HX.out W g).1, (HX.out W g).2.2, (HY.out W g).1, (HY.out W g).2.1, (HY.out W g).2.2.1, (HY.out W g).2.2.2.1, (HY.out W g).2.2.2.2.1, (HY.out W g).2.2.2.2.2, q5]; rfl); simp only [Act.put, List.setIfInBounds_toArray, List.set_cons_succ, List.set_cons_zero])
   | (refine lx_callg (fun W _ => HPt.out W) ?_ ?_ ?_ ?_; (· kernel_rfl); (· exact ⟨by kernel_rfl, rfl⟩); (· intro W g; simp [go_sem]; done); simp only [Act.put, List.setIfInBounds_toArray, List.set_cons_succ, List.set_cons_zero]))
  simp only [List.drop_succ_cons, List.drop_zero]
  go_wp2_with (go_at_call 42; refine (HM.out _ _ _).mono ?_; rintro e w3 ⟨rfl, hw3⟩; rw [hw3]; clear hw3 w3; simp only [cond_false])
  exact ⟨rfl, by rw [HR.out, HPre.out]; simp [Ck.must, ckE, bind, Except.bind], (HT5.out.grow GR).g, by rw [HR.out, HPre.out]; simp [Ck.must, bind, Except.bind]⟩
 cases z6
 case false =>
  go_enter Tryz.func95, Tryz.ntmps95
  go_wp2_with (go_at_call 147; rw [HW2.out, HB3.out]; refine (HRow.out _).mono ?_; rintro e w4 ⟨rfl, hg4⟩; have HT4 : Hid (S5 N w w4 SB c A lp nodes deep B3 [.int .i64 op, .int .i64 n, .slice a1 args.length k1, .slice a2 dst.length k2, .slice a3 xa.length k3, .slice a4 xb.length k4]) := HT2.out.grow hg4; clear hg4)
  obtain ⟨W5, hW5⟩ : ∃ W, W = (w4.alloc (Obj.cells #[.int .i64 p, .int .i64 m, .func (.func q) #[] #[]] 168)) := ⟨_, rfl⟩
  obtain ⟨B5, hB5⟩ : ∃ B, B = w4.heap.size := ⟨_, rfl⟩
  rw [← hW5, ← hB5]
  have HT5 : Hid (S5 N w W5 SB c A lp nodes deep B3 [.int .i64 op, .int .i64 n, .slice a1 args.length k1, .slice a2 dst.length k2, .slice a3 xa.length k3, .slice a4 xb.length k4]) := by rw [hW5]; exact HT4.out.grow (World.grownBy_alloc _ _ _)
  have HK5 : Hid (Bk W5 B5 168 [.int .i64 p, .int .i64 m, .func (.func q) #[] #[]]) := by rw [hW5, hB5]; exact Bk.new _ _ _
  have hB5s : SB < B5 := by have := HT4.out.g.size; omega
  have hB35 : B3 < B5 := by have := HT4.out.x.lt; omega
  clear hW5 hB5 HT4
  have HX : Hid (∀ W, W5.grownBy W none → W.cell? ⟨B5, 0, none⟩ = some (.int .i64 p) ∧ W.cell? ⟨B5, 1, none⟩ = some (.int .i64 m) ∧ W.cell? ⟨B5, 2, none⟩ = some (.func (.func q) #[] #[])) := fun W g => ⟨(HK5.out.grow g).cell (i := 0) rfl, (HK5.out.grow g).cell (i := 1) rfl, (HK5.out.grow g).cell (i := 2) rfl⟩
  have HY : Hid (∀ W, W5.grownBy W none → W.cell? ⟨B3, 0, none⟩ = some (.int .i64 op) ∧ W.cell? ⟨B3, 1, none⟩ = some (.int .i64 n) ∧ W.cell? ⟨B3, 2, none⟩ = some (.slice a1 args.length k1) ∧ W.cell? ⟨B3, 3, none⟩ = some (.slice a2 dst.length k2) ∧ W.cell? ⟨B3, 4, none⟩ = some (.slice a3 xa.length k3) ∧ W.cell? ⟨B3, 5, none⟩ = some (.slice a4 xb.length k4)) := fun W g => ⟨(HT5.out.grow g).x.cell (i := 0) rfl, (HT5.out.grow g).x.cell (i := 1) rfl, (HT5.out.grow g).x.cell (i := 2) rfl, (HT5.out.grow g).x.cell (i := 3) rfl, (HT5.out.grow g).x.cell (i := 4) rfl, (HT5.out.grow g).x.cell (i := 5) rfl⟩
  refine region_lg 11 (World.grownBy.refl _ _) (by kernel_rfl) (by kernel_rfl) (by kernel_rfl) (by kernel_rfl) ?_
  simp only [List.take_succ_cons, List.take_zero]
  repeat (first
   | (refine lx_end fun W0 GR => ?_)
   | (refine lx_no ?_ ?_ ?_; (· simp [Region.wanted, yielded]; done); (· kernel_rfl); simp only [Act.put, List.setIfInBounds_toArray, List.set_cons_succ, List.set_cons_zero])
   | (refine lx_val (v := ?_) ?_ ?_ ?_ ?_; rotate_left; (· kernel_rfl); (· exact ⟨by kernel_rfl, rfl⟩); (· intro W g; simp [go_sem, (HX.out W g).1, (HX.out W g).2.2, (HY.out W g).1, (HY.out W g).2.1, (HY.out W g).2.2.1, (HY.out W g).2.2.2.1, (HY.out W g).2.2.2.2.1, (HY.out W g).2.2.2.2.2, q5]; rfl); simp only [Act.put, List.setIfInBounds_toArray, List.set_cons_succ, List.set_cons_zero])
   | (refine lx_callg (fun W _ => HPt.out W) ?_ ?_ ?_ ?_; (· kernel_rfl); (· exact ⟨by kernel_rfl, rfl⟩); (· intro W g; simp [go_sem]; done); simp only [Act.put, List.setIfInBounds_toArray, List.set_cons_succ, List.set_cons_zero]))
  simp only [List.drop_succ_cons, List.drop_zero]
  have y4 := (HY.out W0 GR).2.2.1
  have y1 := (HX.out W0 GR).2.1
  go_wp2_with (first | (go_at_call 42; refine (HM.out _ _ _).mono ?_; rintro e w3 ⟨rfl, hw3⟩; rw [hw3]; clear hw3 w3; simp only [cond_true, cond_false]) | (go_at_call 77; refine (HFit.out _).mono ?_; rintro e w6 ⟨rfl, hw6⟩; rw [hw6]; clear hw6 w6))
  exact ⟨rfl, by rw [HR.out, HPre.out]; simp [Ck.must, ckE, bind, Except.bind], (HT5.out.grow GR).g, by rw [HR.out, HPre.out]; simp [Ck.must, bind, Except.bind]⟩
 go_enter Tryz.func95, Tryz.ntmps95
 go_wp2_with (go_at_call 147; rw [HW2.out, HB3.out]; refine (HRow.out _).mono ?_; rintro e w4 ⟨rfl, hg4⟩; have HT4 : Hid (S5 N w w4 SB c A lp nodes deep B3 [.int .i64 op, .int .i64 n, .slice a1 args.length k1, .slice a2 dst.length k2, .slice a3 xa.length k3, .slice a4 xb.length k4]) := HT2.out.grow hg4; clear hg4)
 obtain ⟨W5, hW5⟩ : ∃ W, W = (w4.alloc (Obj.cells #[.int .i64 p, .int .i64 m, .func (.func q) #[] #[]] 168)) := ⟨_, rfl⟩
 obtain ⟨B5, hB5⟩ : ∃ B, B = w4.heap.size := ⟨_, rfl⟩
 rw [← hW5, ← hB5]
 have HT5 : Hid (S5 N w W5 SB c A lp nodes deep B3 [.int .i64 op, .int .i64 n, .slice a1 args.length k1, .slice a2 dst.length k2, .slice a3 xa.length k3, .slice a4 xb.length k4]) := by rw [hW5]; exact HT4.out.grow (World.grownBy_alloc _ _ _)
 have HK5 : Hid (Bk W5 B5 168 [.int .i64 p, .int .i64 m, .func (.func q) #[] #[]]) := by rw [hW5, hB5]; exact Bk.new _ _ _
 have hB5s : SB < B5 := by have := HT4.out.g.size; omega
 have hB35 : B3 < B5 := by have := HT4.out.x.lt; omega
 clear hW5 hB5 HT4
 have HX : Hid (∀ W, W5.grownBy W none → W.cell? ⟨B5, 0, none⟩ = some (.int .i64 p) ∧ W.cell? ⟨B5, 1, none⟩ = some (.int .i64 m) ∧ W.cell? ⟨B5, 2, none⟩ = some (.func (.func q) #[] #[])) := fun W g => ⟨(HK5.out.grow g).cell (i := 0) rfl, (HK5.out.grow g).cell (i := 1) rfl, (HK5.out.grow g).cell (i := 2) rfl⟩
 have HY : Hid (∀ W, W5.grownBy W none → W.cell? ⟨B3, 0, none⟩ = some (.int .i64 op) ∧ W.cell? ⟨B3, 1, none⟩ = some (.int .i64 n) ∧ W.cell? ⟨B3, 2, none⟩ = some (.slice a1 args.length k1) ∧ W.cell? ⟨B3, 3, none⟩ = some (.slice a2 dst.length k2) ∧ W.cell? ⟨B3, 4, none⟩ = some (.slice a3 xa.length k3) ∧ W.cell? ⟨B3, 5, none⟩ = some (.slice a4 xb.length k4)) := fun W g => ⟨(HT5.out.grow g).x.cell (i := 0) rfl, (HT5.out.grow g).x.cell (i := 1) rfl, (HT5.out.grow g).x.cell (i := 2) rfl, (HT5.out.grow g).x.cell (i := 3) rfl, (HT5.out.grow g).x.cell (i := 4) rfl, (HT5.out.grow g).x.cell (i := 5) rfl⟩
 refine region_lg 11 (World.grownBy.refl _ _) (by kernel_rfl) (by kernel_rfl) (by kernel_rfl) (by kernel_rfl) ?_
 simp only [List.take_succ_cons, List.take_zero]
 repeat (first
  | (refine lx_end fun W0 GR => ?_)
  | (refine lx_no ?_ ?_ ?_; (· simp [Region.wanted, yielded]; done); (· kernel_rfl); simp only [Act.put, List.setIfInBounds_toArray, List.set_cons_succ, List.set_cons_zero])
  | (refine lx_val (v := ?_) ?_ ?_ ?_ ?_; rotate_left; (· kernel_rfl); (· exact ⟨by kernel_rfl, rfl⟩); (· intro W g; simp [go_sem, (HX.out W g).1, (HX.out W g).2.2, (HY.out W g).1, (HY.out W g).2.1, (HY.out W g).2.2.1, (HY.out W g).2.2.2.1, (HY.out W g).2.2.2.2.1, (HY.out W g).2.2.2.2.2, q5]; rfl); simp only [Act.put, List.setIfInBounds_toArray, List.set_cons_succ, List.set_cons_zero])
  | (refine lx_callg (fun W _ => HPt.out W) ?_ ?_ ?_ ?_; (· kernel_rfl); (· exact ⟨by kernel_rfl, rfl⟩); (· intro W g; simp [go_sem]; done); simp only [Act.put, List.setIfInBounds_toArray, List.set_cons_succ, List.set_cons_zero]))
 simp only [List.drop_succ_cons, List.drop_zero]
 have y4 := (HY.out W0 GR).2.2.1
 have y1 := (HX.out W0 GR).2.1
 go_wp2_with (first | (go_at_call 42; refine (HM.out _ _ _).mono ?_; rintro e w3 ⟨rfl, hw3⟩; rw [hw3]; clear hw3 w3; simp only [cond_true]) | (go_at_call 77; refine (HFit.out _).mono ?_; rintro e w6 ⟨rfl, hw6⟩; rw [hw6]; clear hw6 w6))
 cases htms : Ck.tms c args with
 | error er =>
  have HTs2 := HTs.out
  rw [htms] at HTs2
  have HTs3 : Hid (∀ W, S5 N w W SB c A lp nodes deep B3 [.int .i64 op, .int .i64 n, .slice a1 args.length k1, .slice a2 dst.length k2, .slice a3 xa.length k3, .slice a4 xb.length k4] → Calls Tryz.prog 79 #[.pointer (some ⟨SB, 0, none⟩), .slice a1 args.length k1] W fun e w' => e = ckF er ∧ Ch W w' [SB]) := fun W hT => (HTs2 W hT).mono fun e w' h9 => ⟨h9.2, h9.1⟩
  clear HTs2
  refine region_lu (fun w w' => Ch w w' [SB]) (fun w w' => w.grownBy w' none) (fun W => S5 N w W SB c A lp nodes deep B3 [.int .i64 op, .int .i64 n, .slice a1 args.length k1, .slice a2 dst.length k2, .slice a3 xa.length k3, .slice a4 xb.length k4]) 7 (fun h1 h2 => h1.trans h2) (fun w => World.grownBy.refl _ _) (fun h => Ch.of h) (fun g h => h.grow g) 8 [.val (.pointer (some ⟨B5, 2, none⟩)), .val (.func (.func q) #[] #[]), .val (.pointer (some ⟨SB, 0, none⟩)), .val (stV op n a1 args.length k1 a2 dst.length k2 a3 xa.length k3 a4 xb.length k4), .val (.pointer (some ⟨SB, 0, none⟩)), .val (.pointer (some ⟨B3, 2, none⟩)), .val (.slice a1 args.length k1), .stop] rfl (by kernel_rfl) (by kernel_rfl) (by kernel_rfl) (by kernel_rfl) (HT5.out.grow (grown_drew GR)) ?_
  simp only [List.take_succ_cons, List.take_zero]
  have HC8 : Hid (∀ W, Ch W0.drew W [SB] → W.cell? ⟨B5, 2, none⟩ = some (.func (.func q) #[] #[]) ∧ W.cell? ⟨B3, 0, none⟩ = some (.int .i64 op) ∧ W.cell? ⟨B3, 1, none⟩ = some (.int .i64 n) ∧ W.cell? ⟨B3, 2, none⟩ = some (.slice a1 args.length k1) ∧ W.cell? ⟨B3, 3, none⟩ = some (.slice a2 dst.length k2) ∧ W.cell? ⟨B3, 4, none⟩ = some (.slice a3 xa.length k3) ∧ W.cell? ⟨B3, 5, none⟩ = some (.slice a4 xb.length k4)) := fun W g => by
   have hx := HX.out _ (grown_drew GR)
   have hy := HY.out _ (grown_drew GR)
   exact ⟨g.cell hx.2.2 (by simp; omega), g.cell hy.1 (by simp; omega), g.cell hy.2.1 (by simp; omega), g.cell hy.2.2.1 (by simp; omega), g.cell hy.2.2.2.1 (by simp; omega), g.cell hy.2.2.2.2.1 (by simp; omega), g.cell hy.2.2.2.2.2 (by simp; omega)⟩
  repeat (refine lu_val (x := _) rfl ?_ ?_ (fun w => World.grownBy.refl _ _) (fun h => Ch.of h) ?_ ?_; (· kernel_rfl); (· exact ⟨by kernel_rfl, rfl⟩); (· intro W g; simp [go_sem, (HC8.out W g).1, (HC8.out W g).2.1, (HC8.out W g).2.2.1, (HC8.out W g).2.2.2.1, (HC8.out W g).2.2.2.2.1, (HC8.out W g).2.2.2.2.2.1, (HC8.out W g).2.2.2.2.2.2]; done); simp only [Act.put, List.setIfInBounds_toArray, List.set_cons_succ, List.set_cons_zero])
  refine lu_stop (f := 79) (args := #[.pointer (some ⟨SB, 0, none⟩), .slice a1 args.length k1]) (c := [{ v := .iface 102 (.agg #[.int .i64 er]), recovered := false }]) rfl (by kernel_rfl) ⟨by kernel_rfl, rfl⟩ (fun W g => by simp [go_sem]) (fun W g hu _ => (HTs3.out W (hu rfl)).mono fun e w' h9 => ⟨h9.1, fun a9 hd9 => by have hT9 := hu rfl; exact ⟨hd9, by rw [HR.out, HPre.out, htms]; simp [Ck.must, ckE, bind, Except.bind], hT9.g.trans h9.2, by rw [HR.out, HPre.out, htms]; simp [Ck.must, bind, Except.bind]⟩⟩) ?_
  exact lu_lost
 | ok vs =>
  obtain ⟨hve, hvl⟩ := HEnt.out vs htms
  have HTs2 := HTs.out
  rw [htms] at HTs2
  have HTs3 : Hid (∀ W, Ch W0.drew W [SB] → S5 N w W SB c A lp nodes deep B3 [.int .i64 op, .int .i64 n, .slice a1 args.length k1, .slice a2 dst.length k2, .slice a3 xa.length k3, .slice a4 xb.length k4] → Calls Tryz.prog 79 #[.pointer (some ⟨SB, 0, none⟩), .slice a1 args.length k1] W fun e w' => ∃ v, e = .returned v ∧ Ch W w' [SB] ∧ (OwnZ w' W0.heap.size v vs ∧ S5 N w w' SB c A lp (nodes + (Pg.dCat Pg.Ex.dl args).nd) deep B3 [.int .i64 op, .int .i64 n, .slice a1 args.length k1, .slice a2 dst.length k2, .slice a3 xa.length k3, .slice a4 xb.length k4])) := fun W g hT => (HTs2 W hT).mono fun e w' h9 => by
   obtain ⟨hg, v, hv, ho, hs⟩ := h9
   exact ⟨v, hv, hg, ho.low (by have := g.size; simpa using this), ⟨hs, HFn.out _ (hT.g.trans hg)⟩, hT.x.ch hg (by simp; omega), hT.g.trans hg⟩
  clear HTs2
  have HAs2 : Hid (∀ W v, OwnZ W W0.heap.size v vs → S5 N w W SB c A lp (nodes + (Pg.dCat Pg.Ex.dl args).nd) deep B3 [.int .i64 op, .int .i64 n, .slice a1 args.length k1, .slice a2 dst.length k2, .slice a3 xa.length k3, .slice a4 xb.length k4] → ∃ aa ac, v = .slice aa vs.length ac ∧ CkS q W SB (stV op n a1 args.length k1 a2 dst.length k2 a3 xa.length k3 a4 xb.length k4) aa vs.length ac (Ck.sask c lp op n dst vs)) := fun W v ho hT => by
   obtain ⟨aa, ac, hv, h1, h2, h3⟩ := ho.slice
   refine ⟨aa, ac, hv, HAs.out W aa ac vs _ hT (by first | trivial | rfl) hvl hve W.heap.size ?_⟩
   exact ⟨h1, h2, by
    by_cases h0 : vs.length = 0
    ·exact .inl h0
    ·obtain ⟨T, e1, e2, e3⟩ := h3 (by omega)
     subst e1
     subst hv
     exact .inr ⟨T, 0, rfl, e3, fun i hi => by rw [Nat.zero_add]; exact ho.n.cell hi⟩⟩
  refine region_lu (fun w w' => Ch w w' [SB]) (fun w w' => w.grownBy w' none) (fun W => S5 N w W SB c A lp nodes deep B3 [.int .i64 op, .int .i64 n, .slice a1 args.length k1, .slice a2 dst.length k2, .slice a3 xa.length k3, .slice a4 xb.length k4]) 7 (fun h1 h2 => h1.trans h2) (fun w => World.grownBy.refl _ _) (fun h => Ch.of h) (fun g h => h.grow g) 8 [.val (.pointer (some ⟨B5, 2, none⟩)), .val (.func (.func q) #[] #[]), .val (.pointer (some ⟨SB, 0, none⟩)), .val (stV op n a1 args.length k1 a2 dst.length k2 a3 xa.length k3 a4 xb.length k4), .val (.pointer (some ⟨SB, 0, none⟩)), .val (.pointer (some ⟨B3, 2, none⟩)), .val (.slice a1 args.length k1), .prop (fun v w9 => OwnZ w9 W0.heap.size v vs ∧ S5 N w w9 SB c A lp (nodes + (Pg.dCat Pg.Ex.dl args).nd) deep B3 [.int .i64 op, .int .i64 n, .slice a1 args.length k1, .slice a2 dst.length k2, .slice a3 xa.length k3, .slice a4 xb.length k4])] rfl (by kernel_rfl) (by kernel_rfl) (by kernel_rfl) (by kernel_rfl) (HT5.out.grow (grown_drew GR)) ?_
  simp only [List.take_succ_cons, List.take_zero]
  have HC8 : Hid (∀ W, Ch W0.drew W [SB] → W.cell? ⟨B5, 2, none⟩ = some (.func (.func q) #[] #[]) ∧ W.cell? ⟨B3, 0, none⟩ = some (.int .i64 op) ∧ W.cell? ⟨B3, 1, none⟩ = some (.int .i64 n) ∧ W.cell? ⟨B3, 2, none⟩ = some (.slice a1 args.length k1) ∧ W.cell? ⟨B3, 3, none⟩ = some (.slice a2 dst.length k2) ∧ W.cell? ⟨B3, 4, none⟩ = some (.slice a3 xa.length k3) ∧ W.cell? ⟨B3, 5, none⟩ = some (.slice a4 xb.length k4)) := fun W g => by
   have hx := HX.out _ (grown_drew GR)
   have hy := HY.out _ (grown_drew GR)
   exact ⟨g.cell hx.2.2 (by simp; omega), g.cell hy.1 (by simp; omega), g.cell hy.2.1 (by simp; omega), g.cell hy.2.2.1 (by simp; omega), g.cell hy.2.2.2.1 (by simp; omega), g.cell hy.2.2.2.2.1 (by simp; omega), g.cell hy.2.2.2.2.2 (by simp; omega)⟩
  repeat (refine lu_val (x := _) rfl ?_ ?_ (fun w => World.grownBy.refl _ _) (fun h => Ch.of h) ?_ ?_; (· kernel_rfl); (· exact ⟨by kernel_rfl, rfl⟩); (· intro W g; simp [go_sem, (HC8.out W g).1, (HC8.out W g).2.1, (HC8.out W g).2.2.1, (HC8.out W g).2.2.2.1, (HC8.out W g).2.2.2.2.1, (HC8.out W g).2.2.2.2.2.1, (HC8.out W g).2.2.2.2.2.2]; done); simp only [Act.put, List.setIfInBounds_toArray, List.set_cons_succ, List.set_cons_zero])
  refine lu_prop (f := 79) (args := #[.pointer (some ⟨SB, 0, none⟩), .slice a1 args.length k1]) rfl (by kernel_rfl) ⟨by kernel_rfl, rfl⟩ ?_ (fun W g => by simp [go_sem]) (fun W g hu _ => HTs3.out W g (hu rfl)) ?_
  ·intro v W W9 h9 hg9
   rw [show Rof (fun w w' => w.grownBy w' none) (fun w w' => Ch w w' [SB]) 7 (0 + 1 + 1 + 1 + 1 + 1 + 1 + 1) = (fun w w' : World => w.grownBy w' none) from rfl] at hg9
   exact ⟨h9.1.grow hg9, h9.2.grow hg9⟩
  intro v
  simp only [Act.put, List.setIfInBounds_toArray, List.set_cons_succ, List.set_cons_zero]
  refine lu_end fun W8 g8 hh => ?_
  have h9 := hh (7, fun w9 => OwnZ w9 W0.heap.size v vs ∧ S5 N w w9 SB c A lp (nodes + (Pg.dCat Pg.Ex.dl args).nd) deep B3 [.int .i64 op, .int .i64 n, .slice a1 args.length k1, .slice a2 dst.length k2, .slice a3 xa.length k3, .slice a4 xb.length k4]) (by simp)
  obtain ⟨aa, ac, hv, hM⟩ := HAs2.out W8 v h9.1 h9.2
  subst hv
  have HT8 : Hid (S5 N w W8 SB c A lp (nodes + (Pg.dCat Pg.Ex.dl args).nd) deep B3 [.int .i64 op, .int .i64 n, .slice a1 args.length k1, .slice a2 dst.length k2, .slice a3 xa.length k3, .slice a4 xb.length k4]) := h9.2
  clear hh h9
  simp only [List.drop_succ_cons, List.drop_zero]
  refine wpList_enter (f := q) (args := #[.pointer (some ⟨SB, 0, none⟩), stV op n a1 args.length k1 a2 dst.length k2 a3 xa.length k3 a4 xb.length k4, .slice aa vs.length ac]) rfl (by simp [go_sem, HCf.out]) (Calls.mono hM fun e wK h8 => ?_)
  clear hM
  cases hask : Ck.sask c lp op n dst vs with
  | error er =>
   rw [hask] at h8
   refine .inr ⟨_, h8.1, rfl, ?_, HT8.out.g.trans (Ch.of h8.2), ?_⟩
   ·rw [HR.out, HPre.out, htms]; simp [Ck.must, ckE, bind, Except.bind, hask]
   ·rw [HR.out, HPre.out, htms]; simp [Ck.must, bind, Except.bind, hask]
  | ok u =>
   obtain ⟨⟩ := u
   rw [hask] at h8
   refine .inl ⟨_, h8.1, ?_⟩
   have HT9 : Hid (S5 N w wK SB c A lp (nodes + (Pg.dCat Pg.Ex.dl args).nd) deep B3 [.int .i64 op, .int .i64 n, .slice a1 args.length k1, .slice a2 dst.length k2, .slice a3 xa.length k3, .slice a4 xb.length k4]) := HT8.out.grow h8.2
   clear h8
   simp only [Act.put, List.setIfInBounds_toArray, List.set_cons_succ, List.set_cons_zero]
   have x0 := HT9.out.x.cell (i := 0) rfl
   have k7 := HT9.out.s.s.k.cell (i := 7) rfl
   have f7 := HT9.out.s.s.k.frozen 7
   obtain ⟨q9, hq9⟩ : ∃ z, z = nodes + ((Pg.dCat Pg.Ex.dl args).nd : Int) := ⟨_, rfl⟩
   have hq0 : 0 ≤ q9 ∧ q9 + (Pg.dCat Pg.St.dl xa).nd + (Pg.dCat Pg.St.dl xb).nd < nodes + nd ∧ nodes ≤ q9 := by omega
   rw [← hq9] at HT9
   clear hq9
   by_cases hop : op = 4
   ·skip
    have qo : (op == 4) = true := by simpa using hop
    have HI4 : Hid ((if op = 4 then lp + 1 else lp) = (lp + 1)) := if_pos hop
    have hC9 : Ch w (wK.setCell ⟨SB, 7, none⟩ (.int .i64 ((lp : Int) + 1))) [SB] := HT9.out.g.trans (Ch.one (grown_set _ _ _ _) (by simp))
    have hS9 : Sc N (wK.setCell ⟨SB, 7, none⟩ (.int .i64 ((lp : Int) + 1))) SB c A ((lp + 1 : Nat) : Int) q9 deep := by rw [show ((lp + 1 : Nat) : Int) = (lp : Int) + 1 by omega]; exact HT9.out.s.s.set7 _
    have hx9 : Bk (wK.setCell ⟨SB, 7, none⟩ (.int .i64 ((lp : Int) + 1))) B3 51 [.int .i64 op, .int .i64 n, .slice a1 args.length k1, .slice a2 dst.length k2, .slice a3 xa.length k3, .slice a4 xb.length k4] := HT9.out.x.ch (m := [SB]) (Ch.one (grown_set _ _ _ _) (by simp)) (by simp; omega)
    have x4 := hx9.cell (i := 4) rfl
    have HA9 := HSa.out _ (lp + 1) q9 hC9 hS9 (by omega) hq0.1 (by omega)
    have HX9 : Hid (∀ W, Ch (wK.setCell ⟨SB, 7, none⟩ (.int .i64 ((lp : Int) + 1))) W [SB] → Ch w W [SB] ∧ Bk W B3 51 [.int .i64 op, .int .i64 n, .slice a1 args.length k1, .slice a2 dst.length k2, .slice a3 xa.length k3, .slice a4 xb.length k4]) := fun W g => ⟨hC9.trans g, hx9.ch g (by simp; omega)⟩
    clear hS9 hx9 hC9
    cases hA : Ck.sms c (lp + 1) xa with
    | error er =>
     rw [hA] at HA9
     have HA10 : Hid (Calls Tryz.prog 59 #[.pointer (some ⟨SB, 0, none⟩), .slice a3 xa.length k3] (wK.setCell ⟨SB, 7, none⟩ (.int .i64 ((lp : Int) + 1))) fun e w' => e = ckF er ∧ Ch (wK.setCell ⟨SB, 7, none⟩ (.int .i64 ((lp : Int) + 1))) w' [SB]) := HA9.mono fun e w' h => ⟨h.1, h.2.1⟩
     clear HA9
     go_wp2_with (go_at_call 59; refine HA10.out.mono ?_; rintro e wA ⟨rfl, hgA⟩; have HgA : Hid (Ch w wA [SB] ∧ Bk wA B3 51 [.int .i64 op, .int .i64 n, .slice a1 args.length k1, .slice a2 dst.length k2, .slice a3 xa.length k3, .slice a4 xb.length k4]) := HX9.out wA hgA; have x5 := HgA.out.2.cell (i := 5) rfl; clear HA10)
     exact ⟨rfl, by rw [HR.out, HPre.out, htms]; simp [Ck.must, ckE, bind, Except.bind, hask, HI4.out, hA], HgA.out.1, by rw [HR.out, HPre.out, htms]; simp [Ck.must, bind, Except.bind, hask, HI4.out, hA]⟩
    | ok u =>
     obtain ⟨⟩ := u
     rw [hA] at HA9
     have HA10 : Hid (Calls Tryz.prog 59 #[.pointer (some ⟨SB, 0, none⟩), .slice a3 xa.length k3] (wK.setCell ⟨SB, 7, none⟩ (.int .i64 ((lp : Int) + 1))) fun e w' => e = .returned (.tuple #[]) ∧ Ch (wK.setCell ⟨SB, 7, none⟩ (.int .i64 ((lp : Int) + 1))) w' [SB] ∧ ∃ q10, q9 ≤ q10 ∧ q10 ≤ q9 + (Pg.dCat Pg.St.dl xa).nd ∧ Sx N w' SB c A (lp + 1) q10 deep) := HA9.mono fun e w' h => ⟨h.1, h.2.1, h.2.2 rfl⟩
     clear HA9
     cases hB : Ck.sms c (lp + 1) xb with
     | error er =>
      go_wp2_with (first | (go_at_call 59; refine HA10.out.mono ?_; rintro e wA ⟨rfl, hgA, q10, hqa, hqb, hSA⟩; have HgA : Hid (Ch w wA [SB] ∧ Bk wA B3 51 [.int .i64 op, .int .i64 n, .slice a1 args.length k1, .slice a2 dst.length k2, .slice a3 xa.length k3, .slice a4 xb.length k4]) := HX9.out wA hgA; have x5 := HgA.out.2.cell (i := 5) rfl; have HSA : Hid (Sx N wA SB c A (lp + 1) q10 deep) := hSA; have HQA : Hid (q9 ≤ q10 ∧ q10 ≤ q9 + (Pg.dCat Pg.St.dl xa).nd) := ⟨hqa, hqb⟩; have HB9 := HSb.out wA (lp + 1) q10 HgA.out.1 hSA.s (by omega) (by omega) (by omega); clear hSA hgA hqa hqb; rw [hB] at HB9; have HB10 : Hid (Calls Tryz.prog 59 #[.pointer (some ⟨SB, 0, none⟩), .slice a4 xb.length k4] wA fun e w' => e = ckF er ∧ Ch wA w' [SB]) := HB9.mono fun e w' h => ⟨h.1, h.2.1⟩; clear HB9 HA10) | (go_at_call 59; refine HB10.out.mono ?_; rintro e wB ⟨rfl, hgB⟩; have HgB : Hid (Ch w wB [SB]) := HgA.out.1.trans hgB; clear HB10))
      exact ⟨rfl, by rw [HR.out, HPre.out, htms]; simp [Ck.must, ckE, bind, Except.bind, hask, HI4.out, hA, hB], HgB.out, by rw [HR.out, HPre.out, htms]; simp [Ck.must, bind, Except.bind, hask, HI4.out, hA, hB]⟩
     | ok u2 =>
      obtain ⟨⟩ := u2
      go_wp2_with (first | (go_at_call 59; refine HA10.out.mono ?_; rintro e wA ⟨rfl, hgA, q10, hqa, hqb, hSA⟩; have HgA : Hid (Ch w wA [SB] ∧ Bk wA B3 51 [.int .i64 op, .int .i64 n, .slice a1 args.length k1, .slice a2 dst.length k2, .slice a3 xa.length k3, .slice a4 xb.length k4]) := HX9.out wA hgA; have x5 := HgA.out.2.cell (i := 5) rfl; have HSA : Hid (Sx N wA SB c A (lp + 1) q10 deep) := hSA; have HQA : Hid (q9 ≤ q10 ∧ q10 ≤ q9 + (Pg.dCat Pg.St.dl xa).nd) := ⟨hqa, hqb⟩; have HB9 := HSb.out wA (lp + 1) q10 HgA.out.1 hSA.s (by omega) (by omega) (by omega); clear hSA hgA hqa hqb; rw [hB] at HB9; have HB10 : Hid (Calls Tryz.prog 59 #[.pointer (some ⟨SB, 0, none⟩), .slice a4 xb.length k4] wA fun e w' => e = .returned (.tuple #[]) ∧ Ch wA w' [SB] ∧ ∃ q11, q10 ≤ q11 ∧ q11 ≤ q10 + (Pg.dCat Pg.St.dl xb).nd ∧ Sx N w' SB c A (lp + 1) q11 deep) := HB9.mono fun e w' h => ⟨h.1, h.2.1, h.2.2 rfl⟩; clear HB9 HA10) | (go_at_call 59; refine HB10.out.mono ?_; rintro e wB ⟨rfl, hgB, q11, hqc, hqd, hSB⟩; have HgB : Hid (Ch w wB [SB]) := HgA.out.1.trans hgB; have HSB : Hid (Sx N wB SB c A (lp + 1) q11 deep) := hSB; have HQB : Hid (q10 ≤ q11 ∧ q11 ≤ q10 + (Pg.dCat Pg.St.dl xb).nd) := ⟨hqc, hqd⟩; have kB := hSB.s.k.cell (i := 7) rfl; have fB := hSB.s.k.frozen 7; clear hSB hqc hqd hgB; clear HB10))
      go_end0
      have e9 := HSB.out.s.set7 (lp : Int)
      exact ⟨by rw [HR.out, HPre.out, htms]; simp [Ck.must, ckE, bind, Except.bind, hask, HI4.out, hA, hB], HgB.out.trans (Ch.one (grown_set _ _ _ _) (by simp)), fun _ => ⟨q11, by have := HQA.out; have := HQB.out; omega, by have := HQA.out; have := HQB.out; omega, e9, FnL.ch HSB.out.f (Ch.one (grown_set _ _ _ _) (by simp) : Ch wB _ [SB]) (by intro b hb; simp; omega) (fun _ h => h)⟩⟩
   ·skip
    have qo : (op == 4) = false := by simpa using hop
    have HI4 : Hid ((if op = 4 then lp + 1 else lp) = lp) := if_neg hop
    have hC9 : Ch w wK [SB] := HT9.out.g
    have hS9 : Sc N wK SB c A (lp : Int) q9 deep := HT9.out.s.s
    have hx9 := HT9.out.x
    have x4 := hx9.cell (i := 4) rfl
    have HA9 := HSa.out _ lp q9 hC9 hS9 (by omega) hq0.1 (by omega)
    have HX9 : Hid (∀ W, Ch wK W [SB] → Ch w W [SB] ∧ Bk W B3 51 [.int .i64 op, .int .i64 n, .slice a1 args.length k1, .slice a2 dst.length k2, .slice a3 xa.length k3, .slice a4 xb.length k4]) := fun W g => ⟨hC9.trans g, hx9.ch g (by simp; omega)⟩
    clear hS9 hx9 hC9
    cases hA : Ck.sms c lp xa with
    | error er =>
     rw [hA] at HA9
     have HA10 : Hid (Calls Tryz.prog 59 #[.pointer (some ⟨SB, 0, none⟩), .slice a3 xa.length k3] wK fun e w' => e = ckF er ∧ Ch wK w' [SB]) := HA9.mono fun e w' h => ⟨h.1, h.2.1⟩
     clear HA9
     go_wp2_with (go_at_call 59; refine HA10.out.mono ?_; rintro e wA ⟨rfl, hgA⟩; have HgA : Hid (Ch w wA [SB] ∧ Bk wA B3 51 [.int .i64 op, .int .i64 n, .slice a1 args.length k1, .slice a2 dst.length k2, .slice a3 xa.length k3, .slice a4 xb.length k4]) := HX9.out wA hgA; have x5 := HgA.out.2.cell (i := 5) rfl; clear HA10)
     exact ⟨rfl, by rw [HR.out, HPre.out, htms]; simp [Ck.must, ckE, bind, Except.bind, hask, HI4.out, hA], HgA.out.1, by rw [HR.out, HPre.out, htms]; simp [Ck.must, bind, Except.bind, hask, HI4.out, hA]⟩
    | ok u =>
     obtain ⟨⟩ := u
     rw [hA] at HA9
     have HA10 : Hid (Calls Tryz.prog 59 #[.pointer (some ⟨SB, 0, none⟩), .slice a3 xa.length k3] wK fun e w' => e = .returned (.tuple #[]) ∧ Ch wK w' [SB] ∧ ∃ q10, q9 ≤ q10 ∧ q10 ≤ q9 + (Pg.dCat Pg.St.dl xa).nd ∧ Sx N w' SB c A lp q10 deep) := HA9.mono fun e w' h => ⟨h.1, h.2.1, h.2.2 rfl⟩
     clear HA9
     cases hB : Ck.sms c lp xb with
     | error er =>
      go_wp2_with (first | (go_at_call 59; refine HA10.out.mono ?_; rintro e wA ⟨rfl, hgA, q10, hqa, hqb, hSA⟩; have HgA : Hid (Ch w wA [SB] ∧ Bk wA B3 51 [.int .i64 op, .int .i64 n, .slice a1 args.length k1, .slice a2 dst.length k2, .slice a3 xa.length k3, .slice a4 xb.length k4]) := HX9.out wA hgA; have x5 := HgA.out.2.cell (i := 5) rfl; have HSA : Hid (Sx N wA SB c A lp q10 deep) := hSA; have HQA : Hid (q9 ≤ q10 ∧ q10 ≤ q9 + (Pg.dCat Pg.St.dl xa).nd) := ⟨hqa, hqb⟩; have HB9 := HSb.out wA lp q10 HgA.out.1 hSA.s (by omega) (by omega) (by omega); clear hSA hgA hqa hqb; rw [hB] at HB9; have HB10 : Hid (Calls Tryz.prog 59 #[.pointer (some ⟨SB, 0, none⟩), .slice a4 xb.length k4] wA fun e w' => e = ckF er ∧ Ch wA w' [SB]) := HB9.mono fun e w' h => ⟨h.1, h.2.1⟩; clear HB9 HA10) | (go_at_call 59; refine HB10.out.mono ?_; rintro e wB ⟨rfl, hgB⟩; have HgB : Hid (Ch w wB [SB]) := HgA.out.1.trans hgB; clear HB10))
      exact ⟨rfl, by rw [HR.out, HPre.out, htms]; simp [Ck.must, ckE, bind, Except.bind, hask, HI4.out, hA, hB], HgB.out, by rw [HR.out, HPre.out, htms]; simp [Ck.must, bind, Except.bind, hask, HI4.out, hA, hB]⟩
     | ok u2 =>
      obtain ⟨⟩ := u2
      go_wp2_with (first | (go_at_call 59; refine HA10.out.mono ?_; rintro e wA ⟨rfl, hgA, q10, hqa, hqb, hSA⟩; have HgA : Hid (Ch w wA [SB] ∧ Bk wA B3 51 [.int .i64 op, .int .i64 n, .slice a1 args.length k1, .slice a2 dst.length k2, .slice a3 xa.length k3, .slice a4 xb.length k4]) := HX9.out wA hgA; have x5 := HgA.out.2.cell (i := 5) rfl; have HSA : Hid (Sx N wA SB c A lp q10 deep) := hSA; have HQA : Hid (q9 ≤ q10 ∧ q10 ≤ q9 + (Pg.dCat Pg.St.dl xa).nd) := ⟨hqa, hqb⟩; have HB9 := HSb.out wA lp q10 HgA.out.1 hSA.s (by omega) (by omega) (by omega); clear hSA hgA hqa hqb; rw [hB] at HB9; have HB10 : Hid (Calls Tryz.prog 59 #[.pointer (some ⟨SB, 0, none⟩), .slice a4 xb.length k4] wA fun e w' => e = .returned (.tuple #[]) ∧ Ch wA w' [SB] ∧ ∃ q11, q10 ≤ q11 ∧ q11 ≤ q10 + (Pg.dCat Pg.St.dl xb).nd ∧ Sx N w' SB c A lp q11 deep) := HB9.mono fun e w' h => ⟨h.1, h.2.1, h.2.2 rfl⟩; clear HB9 HA10) | (go_at_call 59; refine HB10.out.mono ?_; rintro e wB ⟨rfl, hgB, q11, hqc, hqd, hSB⟩; have HgB : Hid (Ch w wB [SB]) := HgA.out.1.trans hgB; have HSB : Hid (Sx N wB SB c A lp q11 deep) := hSB; have HQB : Hid (q10 ≤ q11 ∧ q11 ≤ q10 + (Pg.dCat Pg.St.dl xb).nd) := ⟨hqc, hqd⟩; have kB := hSB.s.k.cell (i := 7) rfl; have fB := hSB.s.k.frozen 7; clear hSB hqc hqd hgB; clear HB10))
      go_end0
      have e9 := HSB.out.s.set7 (lp : Int)
      exact ⟨by rw [HR.out, HPre.out, htms]; simp [Ck.must, ckE, bind, Except.bind, hask, HI4.out, hA, hB], HgB.out.trans (Ch.one (grown_set _ _ _ _) (by simp)), fun _ => ⟨q11, by have := HQA.out; have := HQB.out; omega, by have := HQA.out; have := HQB.out; omega, e9, FnL.ch HSB.out.f (Ch.one (grown_set _ _ _ _) (by simp) : Ch wB _ [SB]) (by intro b hb; simp; omega) (fun _ h => h)⟩⟩
theorem ckStm (hcall : CallOk) (x : Pg.St) : StX x := Pg.St.ind (P := StX) (fun op n args dst a b iha ihb => by
 cases hr : Ck.srow op with
 | none => exact ckStm_none hr
 | some r =>
  obtain ⟨pN, pD, pA, pB, m⟩ := r
  exact ckStm_some hcall iha ihb hr) x
end Go.Proofs.YtpcgkggpmipiaaaGreat
