/- check's terms. -/
import Derived.Test.YtpcgkggpmipiaaaGreatG17
import Derived.Test.YtpcgkggpmipiaaaGreatRuLu
namespace Go.Proofs.YtpcgkggpmipiaaaGreat
open Go.RowKit
set_option linter.unusedVariables false
set_option maxRecDepth 100000
set_option maxHeartbeats 8000000
theorem ckTerm_some {op t n : Int} {s : ByteArray} {args : List Pg.Ex} (ih : ∀ y, y ∈ args → TmX y) {pT pN pS : Bool} {m : Int} (hr : Ck.trow op n = some (pT, pN, pS, m)) : TmX (.mk op t n s args) := by
 intro N w SB c A loops nodes deep a k hc h hl hsz hn0 hn1 hd0 hd1
 have e1 := Pg.Ex.nd_eq (.mk op t n s args)
 simp only [Pg.Ex.op, Pg.Ex.t, Pg.Ex.n, Pg.Ex.s, Pg.Ex.args] at hl hsz e1 ⊢
 obtain ⟨R, hR⟩ : ∃ R, R = Ck.tm c (.mk op t n s args) := ⟨_, rfl⟩
 have HR : Hid (R = (do Ck.pre c op t n s.size args.length; let l ← Ck.tms c args; Ck.ask c op t n l)) := by show _ = _; rw [hR, Ck.tm]
 rw [← hR]
 clear hR
 generalize (Pg.Ex.mk op t n s args).dl.nd = nd at *
 generalize (Pg.Ex.mk op t n s args).dl.dp = dp at *
 have hle := hl.le
 have hmx := hl.max
 unfold maxLen at hmx
 have hSlt := h.k.lt
 have hNB := h.nb
 have HW0 : Hid (Ch w w [SB]) := Ch.of (World.grownBy.refl _ _)
 have g1 : w.grownBy (w.alloc (Obj.cells #[.int .i64 op, .int .i64 t, .int .i64 n, .string s, .slice a args.length k] 45)) none := World.grownBy_alloc _ _ _
 have hS1 := h.grow g1
 have k8 := hS1.k.cell (i := 8) rfl
 have f8 := hS1.k.frozen 8
 have hS8 := h.set8 (nodes + 1)
 have hS85 := hS8.grow (World.grownBy_alloc _ (Obj.cells #[.int .i64 op, .int .i64 t, .int .i64 n, .string s, .slice a args.length k] 45) none)
 have k9 := hS85.k.cell (i := 9) rfl
 have f9 := hS85.k.frozen 9
 have hS9 := hS8.set9 (deep + 1)
 have hS2 := hS9.grow (World.grownBy_alloc _ (Obj.cells #[.int .i64 op, .int .i64 t, .int .i64 n, .string s, .slice a args.length k] 45) none)
 have k82 := hS2.k.cell (i := 8) rfl
 have k92 := hS2.k.cell (i := 9) rfl
 have hC2 : Ch w (((w.setCell ⟨SB, 8, none⟩ (.int .i64 (nodes + 1))).setCell ⟨SB, 9, none⟩ (.int .i64 (deep + 1))).alloc (Obj.cells #[.int .i64 op, .int .i64 t, .int .i64 n, .string s, .slice a args.length k] 45)) [SB] := ((Ch.one (grown_set _ _ _ _) (by simp)).trans (Ch.one (grown_set _ _ _ _) (by simp))).trans (Ch.of (World.grownBy_alloc _ _ _))
 have kb2 : Bk (((w.setCell ⟨SB, 8, none⟩ (.int .i64 (nodes + 1))).setCell ⟨SB, 9, none⟩ (.int .i64 (deep + 1))).alloc (Obj.cells #[.int .i64 op, .int .i64 t, .int .i64 n, .string s, .slice a args.length k] 45)) w.heap.size 45 [.int .i64 op, .int .i64 t, .int .i64 n, .string s, .slice a args.length k] := by have h9 := Bk.new ((w.setCell ⟨SB, 8, none⟩ (.int .i64 (nodes + 1))).setCell ⟨SB, 9, none⟩ (.int .i64 (deep + 1))) 45 [.int .i64 op, .int .i64 t, .int .i64 n, .string s, .slice a args.length k]; simpa using h9
 have x0 := kb2.cell (i := 0) rfl
 have x1 := kb2.cell (i := 1) rfl
 have x2 := kb2.cell (i := 2) rfl
 have x3 := kb2.cell (i := 3) rfl
 have x4 := kb2.cell (i := 4) rfl
 obtain ⟨W2, hW2⟩ : ∃ W, W = (((w.setCell ⟨SB, 8, none⟩ (.int .i64 (nodes + 1))).setCell ⟨SB, 9, none⟩ (.int .i64 (deep + 1))).alloc (Obj.cells #[.int .i64 op, .int .i64 t, .int .i64 n, .string s, .slice a args.length k] 45)) := ⟨_, rfl⟩
 obtain ⟨B3, hB3⟩ : ∃ B, B = w.heap.size := ⟨_, rfl⟩
 have hT2 : T5 N w W2 SB c A loops (nodes + 1) (deep + 1) B3 [.int .i64 op, .int .i64 t, .int .i64 n, .string s, .slice a args.length k] := by rw [hW2, hB3]; exact ⟨hS2, kb2, hC2⟩
 have HT2 : Hid (T5 N w W2 SB c A loops (nodes + 1) (deep + 1) B3 [.int .i64 op, .int .i64 t, .int .i64 n, .string s, .slice a args.length k]) := hT2
 have HB3 : Hid (w.heap.size = B3) := hB3.symm
 have HW2 : Hid ((((w.setCell ⟨SB, 8, none⟩ (.int .i64 (nodes + 1))).setCell ⟨SB, 9, none⟩ (.int .i64 (deep + 1))).alloc (Obj.cells #[.int .i64 op, .int .i64 t, .int .i64 n, .string s, .slice a args.length k] 45)) = W2) := hW2.symm
 have hB3s : SB < B3 := by omega
 have d1 : decide (nodes + 1 < 33554432) = true := by simp; omega
 have d2 : decide (deep + 1 < 65536) = true := by simp; omega
 have HM : Hid (∀ (b : Bool) (e : Int) W, Calls Tryz.prog 42 #[.bool b, .int .i64 e] W fun r w' => r = (bif b then .returned (.tuple #[]) else ckF e) ∧ w' = W) := ckMust_any
 obtain ⟨p, hp⟩ : ∃ p, p = Ck.pI pT pN pS := ⟨_, rfl⟩
 obtain ⟨q, hq⟩ : ∃ q, q = tfn op n := ⟨_, rfl⟩
 obtain ⟨P, hP⟩ : ∃ P, P = Ck.pI (t != 0) (n != 0) (decide (0 < s.size)) := ⟨_, rfl⟩
 have HRow : Hid (∀ W, Calls Tryz.prog 75 #[exV op t n s a args.length k] W fun r w' => r = .returned (rowA p m (.func (.func q) #[] #[])) ∧ W.grownBy w' none) := fun W => by
  have h9 := ckRow_any op t n s a args.length k W
  unfold rowV at h9
  rw [hr] at h9
  rw [hp, hq]
  exact h9
 have HPt : Hid (∀ W, Calls Tryz.prog 76 #[exV op t n s a args.length k] W fun r w' => r = .returned (.int .i64 P) ∧ W.grownBy w' none) := fun W => by rw [hP]; exact ckParts_any op t n s a args.length k hsz W
 obtain ⟨z5, hz5⟩ : ∃ z : Bool, z = ((t == 0 || pT) && (n == 0 || pN) && (s.size == 0 || pS)) := ⟨_, rfl⟩
 have q5 : (bits BinOp.andNot IntKind.i64 P p == 0) = z5 := by
  rw [hz5, hP, hp, bits_parts]
  have e5 : (!decide (0 < s.size)) = (s.size == 0) := by cases hs : s.size <;> simp
  rw [e5]
  simp only [bne, Bool.not_not]
 have q7 : (bits BinOp.and IntKind.i64 p 1 == 0) = !pT := by rw [hp]; exact bits_T _ _ _
 obtain ⟨z6, hz6⟩ : ∃ z : Bool, z = (m == -1 || m == (args.length : Int)) := ⟨_, rfl⟩
 have HFit : Hid (∀ W, Calls Tryz.prog 77 #[.int .i64 m, .int .i64 (args.length : Int)] W fun r w' => r = .returned (.bool z6) ∧ w' = W) := fun W => by rw [hz6]; exact ckFit_any _ _ W
 obtain ⟨ze, hze⟩ : ∃ z : Bool, z = Ck.ent c t := ⟨_, rfl⟩
 have HEn : Hid (∀ W, Calls Tryz.prog 78 #[.agg #[.slice A.ea c.n A.ec, .slice A.va c.n A.vc], .int .i64 t] W fun r w' => r = .returned (.bool ze) ∧ W.grownBy w' none) := fun W => by rw [hze]; exact ckEntry_any _ _ _ _ _ _ W
 have HPre : Hid (Ck.pre c op t n s.size args.length = (do Ck.must z5 97; Ck.must z6 94; Ck.must (!pT || ze) 93)) := by show _ = _; rw [Ck.pre_row hr, hz5, hz6, hze]
 have HAs : Hid (∀ W aa ac vs, T5 N w W SB c A loops (nodes + nd) (deep + 1) B3 [.int .i64 op, .int .i64 t, .int .i64 n, .string s, .slice a args.length k] → z6 = true → (pT = true → ze = true) → vs.length = args.length → (∀ x, x ∈ vs → 0 ≤ x ∧ x < (c.n : Int)) → ∀ M, NumIn M W aa vs.length ac (fun i => vs.getD i 0) → CkM q W SB op t n s a args.length k aa vs.length ac (Ck.ask c op t n vs)) := fun W aa ac vs hT h6 h7 hv hn M hl2 => by rw [hq]; exact ckAsk hc hT.s op t n s a args.length k hr (by rw [hv, ← hz6]; exact h6) (fun h9 => by have := h7 h9; rw [hze] at this; exact Ty.nmB_iff.1 this) hn hl2
 have HTs : Hid (∀ W, T5 N w W SB c A loops (nodes + 1) (deep + 1) B3 [.int .i64 op, .int .i64 t, .int .i64 n, .string s, .slice a args.length k] → Calls Tryz.prog 79 #[.pointer (some ⟨SB, 0, none⟩), .slice a args.length k] W fun e w' => Ch W w' [SB] ∧ TmsE N W SB c A loops (nodes + nd) (deep + 1) (Ck.tms c args) e w') := fun W hT => by
  have h9 := ckTerms args ih hc hT.s (ExL.ch hl hT.g (by intro b hb; simp; omega) (fun _ h => h)) (by omega) (by omega) (by omega) (by omega)
  rw [show nodes + 1 + ((Pg.dCat Pg.Ex.dl args).nd : Int) = nodes + nd by omega] at h9
  exact h9
 have HEnt : Hid (∀ vs, Ck.tms c args = .ok vs → z6 = true → (pT = true → ze = true) → (∀ x, x ∈ vs → 0 ≤ x ∧ x < (c.n : Int)) ∧ vs.length = args.length) := fun vs hv h6 h7 => ⟨Ck.tms_ent hc hv, Ck.tms_len hv⟩
 have HCf : Hid (∀ args W, Sem.run Tryz.prog (callFunc q args) W = .ok (.enter q args) W) := fun args W => by rw [hq]; exact tfn_call hr args W
 clear hz5 hz6 hze hp hP hq
 clear hB3 hW2 g1 kb2 hS1 hS8 hS85 hS9 hS2 hC2 h hl hc hr hT2
 clear ih
 cases z5
 case false =>
  go_enter Tryz.func45, Tryz.ntmps45
  go_wp2_with (first | (go_at_call 42; refine (HM.out _ _ _).mono ?_; rintro e w3 ⟨rfl, hw3⟩; rw [hw3]; clear hw3 w3; simp only [cond_true]) | (go_at_call 75; rw [HW2.out, HB3.out]; refine (HRow.out _).mono ?_; rintro e w4 ⟨rfl, hg4⟩; have HT4 : Hid (T5 N w w4 SB c A loops (nodes + 1) (deep + 1) B3 [.int .i64 op, .int .i64 t, .int .i64 n, .string s, .slice a args.length k]) := HT2.out.grow hg4; clear hg4))
  obtain ⟨W5, hW5⟩ : ∃ W, W = (w4.alloc (Obj.cells #[.int .i64 p, .int .i64 m, .func (.func q) #[] #[]] 122)) := ⟨_, rfl⟩
  obtain ⟨B5, hB5⟩ : ∃ B, B = w4.heap.size := ⟨_, rfl⟩
  rw [← hW5, ← hB5]
  have HT5 : Hid (T5 N w W5 SB c A loops (nodes + 1) (deep + 1) B3 [.int .i64 op, .int .i64 t, .int .i64 n, .string s, .slice a args.length k]) := by rw [hW5]; exact HT4.out.grow (World.grownBy_alloc _ _ _)
  have HK5 : Hid (Bk W5 B5 122 [.int .i64 p, .int .i64 m, .func (.func q) #[] #[]]) := by rw [hW5, hB5]; exact Bk.new _ _ _
  have hB5s : SB < B5 := by have := HT4.out.g.size; omega
  have hB35 : B3 < B5 := by have := HT4.out.x.lt; omega
  clear hW5 hB5 HT4
  have HX : Hid (∀ W, W5.grownBy W none → W.cell? ⟨B5, 0, none⟩ = some (.int .i64 p) ∧ W.cell? ⟨B5, 1, none⟩ = some (.int .i64 m) ∧ W.cell? ⟨B5, 2, none⟩ = some (.func (.func q) #[] #[])) := fun W g => ⟨(HK5.out.grow g).cell (i := 0) rfl, (HK5.out.grow g).cell (i := 1) rfl, (HK5.out.grow g).cell (i := 2) rfl⟩
  have HY : Hid (∀ W, W5.grownBy W none → W.cell? ⟨B3, 0, none⟩ = some (.int .i64 op) ∧ W.cell? ⟨B3, 1, none⟩ = some (.int .i64 t) ∧ W.cell? ⟨B3, 2, none⟩ = some (.int .i64 n) ∧ W.cell? ⟨B3, 3, none⟩ = some (.string s) ∧ W.cell? ⟨B3, 4, none⟩ = some (.slice a args.length k)) := fun W g => ⟨(HT5.out.grow g).x.cell (i := 0) rfl, (HT5.out.grow g).x.cell (i := 1) rfl, (HT5.out.grow g).x.cell (i := 2) rfl, (HT5.out.grow g).x.cell (i := 3) rfl, (HT5.out.grow g).x.cell (i := 4) rfl⟩
  have HZ : Hid (∀ W, W5.grownBy W none → W.cell? ⟨SB, 0, none⟩ = some (.slice A.ea c.n A.ec) ∧ W.cell? ⟨SB, 1, none⟩ = some (.slice A.va c.n A.vc)) := fun W g => ⟨(HT5.out.grow g).s.k.cell (i := 0) rfl, (HT5.out.grow g).s.k.cell (i := 1) rfl⟩
  refine region_lg 11 (World.grownBy.refl _ _) (by kernel_rfl) (by kernel_rfl) (by kernel_rfl) (by kernel_rfl) ?_
  simp only [List.take_succ_cons, List.take_zero]
  repeat (first
   | (refine lx_end fun W0 GR => ?_)
   | (refine lx_no ?_ ?_ ?_; (· simp [Region.wanted, yielded]; done); (· kernel_rfl); simp only [Act.put, List.setIfInBounds_toArray, List.set_cons_succ, List.set_cons_zero])
   | (refine lx_val (v := ?_) ?_ ?_ ?_ ?_; rotate_left; (· kernel_rfl); (· exact ⟨by kernel_rfl, rfl⟩); (· intro W g; simp [go_sem, (HX.out W g).1, (HX.out W g).2.2, (HY.out W g).1, (HY.out W g).2.1, (HY.out W g).2.2.1, (HY.out W g).2.2.2.1, (HY.out W g).2.2.2.2, q5]; rfl); simp only [Act.put, List.setIfInBounds_toArray, List.set_cons_succ, List.set_cons_zero])
   | (refine lx_callg (fun W _ => HPt.out W) ?_ ?_ ?_ ?_; (· kernel_rfl); (· exact ⟨by kernel_rfl, rfl⟩); (· intro W g; simp [go_sem]; done); simp only [Act.put, List.setIfInBounds_toArray, List.set_cons_succ, List.set_cons_zero]))
  simp only [List.drop_succ_cons, List.drop_zero]
  go_wp2_with (go_at_call 42; refine (HM.out _ _ _).mono ?_; rintro e w3 ⟨rfl, hw3⟩; rw [hw3]; clear hw3 w3; simp only [cond_false])
  exact ⟨rfl, by rw [HR.out, HPre.out]; simp [Ck.must, ckE, bind, Except.bind], (HT5.out.grow GR).g, by rw [HR.out, HPre.out]; simp [Ck.must, bind, Except.bind]⟩
 cases z6
 case false =>
  go_enter Tryz.func45, Tryz.ntmps45
  go_wp2_with (first | (go_at_call 42; refine (HM.out _ _ _).mono ?_; rintro e w3 ⟨rfl, hw3⟩; rw [hw3]; clear hw3 w3; simp only [cond_true]) | (go_at_call 75; rw [HW2.out, HB3.out]; refine (HRow.out _).mono ?_; rintro e w4 ⟨rfl, hg4⟩; have HT4 : Hid (T5 N w w4 SB c A loops (nodes + 1) (deep + 1) B3 [.int .i64 op, .int .i64 t, .int .i64 n, .string s, .slice a args.length k]) := HT2.out.grow hg4; clear hg4))
  obtain ⟨W5, hW5⟩ : ∃ W, W = (w4.alloc (Obj.cells #[.int .i64 p, .int .i64 m, .func (.func q) #[] #[]] 122)) := ⟨_, rfl⟩
  obtain ⟨B5, hB5⟩ : ∃ B, B = w4.heap.size := ⟨_, rfl⟩
  rw [← hW5, ← hB5]
  have HT5 : Hid (T5 N w W5 SB c A loops (nodes + 1) (deep + 1) B3 [.int .i64 op, .int .i64 t, .int .i64 n, .string s, .slice a args.length k]) := by rw [hW5]; exact HT4.out.grow (World.grownBy_alloc _ _ _)
  have HK5 : Hid (Bk W5 B5 122 [.int .i64 p, .int .i64 m, .func (.func q) #[] #[]]) := by rw [hW5, hB5]; exact Bk.new _ _ _
  have hB5s : SB < B5 := by have := HT4.out.g.size; omega
  have hB35 : B3 < B5 := by have := HT4.out.x.lt; omega
  clear hW5 hB5 HT4
  have HX : Hid (∀ W, W5.grownBy W none → W.cell? ⟨B5, 0, none⟩ = some (.int .i64 p) ∧ W.cell? ⟨B5, 1, none⟩ = some (.int .i64 m) ∧ W.cell? ⟨B5, 2, none⟩ = some (.func (.func q) #[] #[])) := fun W g => ⟨(HK5.out.grow g).cell (i := 0) rfl, (HK5.out.grow g).cell (i := 1) rfl, (HK5.out.grow g).cell (i := 2) rfl⟩
  have HY : Hid (∀ W, W5.grownBy W none → W.cell? ⟨B3, 0, none⟩ = some (.int .i64 op) ∧ W.cell? ⟨B3, 1, none⟩ = some (.int .i64 t) ∧ W.cell? ⟨B3, 2, none⟩ = some (.int .i64 n) ∧ W.cell? ⟨B3, 3, none⟩ = some (.string s) ∧ W.cell? ⟨B3, 4, none⟩ = some (.slice a args.length k)) := fun W g => ⟨(HT5.out.grow g).x.cell (i := 0) rfl, (HT5.out.grow g).x.cell (i := 1) rfl, (HT5.out.grow g).x.cell (i := 2) rfl, (HT5.out.grow g).x.cell (i := 3) rfl, (HT5.out.grow g).x.cell (i := 4) rfl⟩
  have HZ : Hid (∀ W, W5.grownBy W none → W.cell? ⟨SB, 0, none⟩ = some (.slice A.ea c.n A.ec) ∧ W.cell? ⟨SB, 1, none⟩ = some (.slice A.va c.n A.vc)) := fun W g => ⟨(HT5.out.grow g).s.k.cell (i := 0) rfl, (HT5.out.grow g).s.k.cell (i := 1) rfl⟩
  refine region_lg 11 (World.grownBy.refl _ _) (by kernel_rfl) (by kernel_rfl) (by kernel_rfl) (by kernel_rfl) ?_
  simp only [List.take_succ_cons, List.take_zero]
  repeat (first
   | (refine lx_end fun W0 GR => ?_)
   | (refine lx_no ?_ ?_ ?_; (· simp [Region.wanted, yielded]; done); (· kernel_rfl); simp only [Act.put, List.setIfInBounds_toArray, List.set_cons_succ, List.set_cons_zero])
   | (refine lx_val (v := ?_) ?_ ?_ ?_ ?_; rotate_left; (· kernel_rfl); (· exact ⟨by kernel_rfl, rfl⟩); (· intro W g; simp [go_sem, (HX.out W g).1, (HX.out W g).2.2, (HY.out W g).1, (HY.out W g).2.1, (HY.out W g).2.2.1, (HY.out W g).2.2.2.1, (HY.out W g).2.2.2.2, q5]; rfl); simp only [Act.put, List.setIfInBounds_toArray, List.set_cons_succ, List.set_cons_zero])
   | (refine lx_callg (fun W _ => HPt.out W) ?_ ?_ ?_ ?_; (· kernel_rfl); (· exact ⟨by kernel_rfl, rfl⟩); (· intro W g; simp [go_sem]; done); simp only [Act.put, List.setIfInBounds_toArray, List.set_cons_succ, List.set_cons_zero]))
  simp only [List.drop_succ_cons, List.drop_zero]
  have y4 := (HY.out W0 GR).2.2.2.2
  have y1 := (HX.out W0 GR).2.1
  go_wp2_with (first | (go_at_call 42; refine (HM.out _ _ _).mono ?_; rintro e w3 ⟨rfl, hw3⟩; rw [hw3]; clear hw3 w3; simp only [cond_true, cond_false]) | (go_at_call 77; refine (HFit.out _).mono ?_; rintro e w6 ⟨rfl, hw6⟩; rw [hw6]; clear hw6 w6))
  exact ⟨rfl, by rw [HR.out, HPre.out]; simp [Ck.must, ckE, bind, Except.bind], (HT5.out.grow GR).g, by rw [HR.out, HPre.out]; simp [Ck.must, bind, Except.bind]⟩
 cases pT
 case true =>
  cases ze
  case false =>
   go_enter Tryz.func45, Tryz.ntmps45
   go_wp2_with (first | (go_at_call 42; refine (HM.out _ _ _).mono ?_; rintro e w3 ⟨rfl, hw3⟩; rw [hw3]; clear hw3 w3; simp only [cond_true]) | (go_at_call 75; rw [HW2.out, HB3.out]; refine (HRow.out _).mono ?_; rintro e w4 ⟨rfl, hg4⟩; have HT4 : Hid (T5 N w w4 SB c A loops (nodes + 1) (deep + 1) B3 [.int .i64 op, .int .i64 t, .int .i64 n, .string s, .slice a args.length k]) := HT2.out.grow hg4; clear hg4))
   obtain ⟨W5, hW5⟩ : ∃ W, W = (w4.alloc (Obj.cells #[.int .i64 p, .int .i64 m, .func (.func q) #[] #[]] 122)) := ⟨_, rfl⟩
   obtain ⟨B5, hB5⟩ : ∃ B, B = w4.heap.size := ⟨_, rfl⟩
   rw [← hW5, ← hB5]
   have HT5 : Hid (T5 N w W5 SB c A loops (nodes + 1) (deep + 1) B3 [.int .i64 op, .int .i64 t, .int .i64 n, .string s, .slice a args.length k]) := by rw [hW5]; exact HT4.out.grow (World.grownBy_alloc _ _ _)
   have HK5 : Hid (Bk W5 B5 122 [.int .i64 p, .int .i64 m, .func (.func q) #[] #[]]) := by rw [hW5, hB5]; exact Bk.new _ _ _
   have hB5s : SB < B5 := by have := HT4.out.g.size; omega
   have hB35 : B3 < B5 := by have := HT4.out.x.lt; omega
   clear hW5 hB5 HT4
   have HX : Hid (∀ W, W5.grownBy W none → W.cell? ⟨B5, 0, none⟩ = some (.int .i64 p) ∧ W.cell? ⟨B5, 1, none⟩ = some (.int .i64 m) ∧ W.cell? ⟨B5, 2, none⟩ = some (.func (.func q) #[] #[])) := fun W g => ⟨(HK5.out.grow g).cell (i := 0) rfl, (HK5.out.grow g).cell (i := 1) rfl, (HK5.out.grow g).cell (i := 2) rfl⟩
   have HY : Hid (∀ W, W5.grownBy W none → W.cell? ⟨B3, 0, none⟩ = some (.int .i64 op) ∧ W.cell? ⟨B3, 1, none⟩ = some (.int .i64 t) ∧ W.cell? ⟨B3, 2, none⟩ = some (.int .i64 n) ∧ W.cell? ⟨B3, 3, none⟩ = some (.string s) ∧ W.cell? ⟨B3, 4, none⟩ = some (.slice a args.length k)) := fun W g => ⟨(HT5.out.grow g).x.cell (i := 0) rfl, (HT5.out.grow g).x.cell (i := 1) rfl, (HT5.out.grow g).x.cell (i := 2) rfl, (HT5.out.grow g).x.cell (i := 3) rfl, (HT5.out.grow g).x.cell (i := 4) rfl⟩
   have HZ : Hid (∀ W, W5.grownBy W none → W.cell? ⟨SB, 0, none⟩ = some (.slice A.ea c.n A.ec) ∧ W.cell? ⟨SB, 1, none⟩ = some (.slice A.va c.n A.vc)) := fun W g => ⟨(HT5.out.grow g).s.k.cell (i := 0) rfl, (HT5.out.grow g).s.k.cell (i := 1) rfl⟩
   refine region_lg 11 (World.grownBy.refl _ _) (by kernel_rfl) (by kernel_rfl) (by kernel_rfl) (by kernel_rfl) ?_
   simp only [List.take_succ_cons, List.take_zero]
   repeat (first
    | (refine lx_end fun W0 GR => ?_)
    | (refine lx_no ?_ ?_ ?_; (· simp [Region.wanted, yielded]; done); (· kernel_rfl); simp only [Act.put, List.setIfInBounds_toArray, List.set_cons_succ, List.set_cons_zero])
    | (refine lx_val (v := ?_) ?_ ?_ ?_ ?_; rotate_left; (· kernel_rfl); (· exact ⟨by kernel_rfl, rfl⟩); (· intro W g; simp [go_sem, (HX.out W g).1, (HX.out W g).2.2, (HY.out W g).1, (HY.out W g).2.1, (HY.out W g).2.2.1, (HY.out W g).2.2.2.1, (HY.out W g).2.2.2.2, q5]; rfl); simp only [Act.put, List.setIfInBounds_toArray, List.set_cons_succ, List.set_cons_zero])
    | (refine lx_callg (fun W _ => HPt.out W) ?_ ?_ ?_ ?_; (· kernel_rfl); (· exact ⟨by kernel_rfl, rfl⟩); (· intro W g; simp [go_sem]; done); simp only [Act.put, List.setIfInBounds_toArray, List.set_cons_succ, List.set_cons_zero]))
   simp only [List.drop_succ_cons, List.drop_zero]
   have y4 := (HY.out W0 GR).2.2.2.2
   have y1 := (HX.out W0 GR).2.1
   go_wp2_with (first | (go_at_call 42; refine (HM.out _ _ _).mono ?_; rintro e w3 ⟨rfl, hw3⟩; rw [hw3]; clear hw3 w3; simp only [cond_true]) | (go_at_call 77; refine (HFit.out _).mono ?_; rintro e w6 ⟨rfl, hw6⟩; rw [hw6]; clear hw6 w6))
   refine region_lg 13 GR (by kernel_rfl) (by kernel_rfl) (by kernel_rfl) (by kernel_rfl) ?_
   simp only [List.take_succ_cons, List.take_zero]
   repeat (first
    | (refine lx_end fun W7 G7 => ?_)
    | (refine lx_no ?_ ?_ ?_; (· simp [Region.wanted, yielded]; done); (· kernel_rfl); simp only [Act.put, List.setIfInBounds_toArray, List.set_cons_succ, List.set_cons_zero])
    | (refine lx_val (v := ?_) ?_ ?_ ?_ ?_; rotate_left; (· kernel_rfl); (· exact ⟨by kernel_rfl, rfl⟩); (· intro W g; simp [go_sem, (HX.out W g).1, (HY.out W g).2.1, (HZ.out W g).1, (HZ.out W g).2, q7]; rfl); simp only [Act.put, List.setIfInBounds_toArray, List.set_cons_succ, List.set_cons_zero])
    | (refine lx_callg (fun W _ => HEn.out W) ?_ ?_ ?_ ?_; (· kernel_rfl); (· exact ⟨by kernel_rfl, rfl⟩); (· intro W g; simp [go_sem]; done); simp only [Act.put, List.setIfInBounds_toArray, List.set_cons_succ, List.set_cons_zero]))
   simp only [List.drop_succ_cons, List.drop_zero]
   go_wp2_with (go_at_call 42; refine (HM.out _ _ _).mono ?_; rintro e w3 ⟨rfl, hw3⟩; rw [hw3]; clear hw3 w3; simp only [cond_false])
   exact ⟨rfl, by rw [HR.out, HPre.out]; simp [Ck.must, ckE, bind, Except.bind], (HT5.out.grow G7).g, by rw [HR.out, HPre.out]; simp [Ck.must, bind, Except.bind]⟩
  case true =>
   have HPT : Hid ((true : Bool) = true → (true : Bool) = true) := fun _ => rfl
   go_enter Tryz.func45, Tryz.ntmps45
   go_wp2_with (first | (go_at_call 42; refine (HM.out _ _ _).mono ?_; rintro e w3 ⟨rfl, hw3⟩; rw [hw3]; clear hw3 w3; simp only [cond_true]) | (go_at_call 75; rw [HW2.out, HB3.out]; refine (HRow.out _).mono ?_; rintro e w4 ⟨rfl, hg4⟩; have HT4 : Hid (T5 N w w4 SB c A loops (nodes + 1) (deep + 1) B3 [.int .i64 op, .int .i64 t, .int .i64 n, .string s, .slice a args.length k]) := HT2.out.grow hg4; clear hg4))
   obtain ⟨W5, hW5⟩ : ∃ W, W = (w4.alloc (Obj.cells #[.int .i64 p, .int .i64 m, .func (.func q) #[] #[]] 122)) := ⟨_, rfl⟩
   obtain ⟨B5, hB5⟩ : ∃ B, B = w4.heap.size := ⟨_, rfl⟩
   rw [← hW5, ← hB5]
   have HT5 : Hid (T5 N w W5 SB c A loops (nodes + 1) (deep + 1) B3 [.int .i64 op, .int .i64 t, .int .i64 n, .string s, .slice a args.length k]) := by rw [hW5]; exact HT4.out.grow (World.grownBy_alloc _ _ _)
   have HK5 : Hid (Bk W5 B5 122 [.int .i64 p, .int .i64 m, .func (.func q) #[] #[]]) := by rw [hW5, hB5]; exact Bk.new _ _ _
   have hB5s : SB < B5 := by have := HT4.out.g.size; omega
   have hB35 : B3 < B5 := by have := HT4.out.x.lt; omega
   clear hW5 hB5 HT4
   have HX : Hid (∀ W, W5.grownBy W none → W.cell? ⟨B5, 0, none⟩ = some (.int .i64 p) ∧ W.cell? ⟨B5, 1, none⟩ = some (.int .i64 m) ∧ W.cell? ⟨B5, 2, none⟩ = some (.func (.func q) #[] #[])) := fun W g => ⟨(HK5.out.grow g).cell (i := 0) rfl, (HK5.out.grow g).cell (i := 1) rfl, (HK5.out.grow g).cell (i := 2) rfl⟩
   have HY : Hid (∀ W, W5.grownBy W none → W.cell? ⟨B3, 0, none⟩ = some (.int .i64 op) ∧ W.cell? ⟨B3, 1, none⟩ = some (.int .i64 t) ∧ W.cell? ⟨B3, 2, none⟩ = some (.int .i64 n) ∧ W.cell? ⟨B3, 3, none⟩ = some (.string s) ∧ W.cell? ⟨B3, 4, none⟩ = some (.slice a args.length k)) := fun W g => ⟨(HT5.out.grow g).x.cell (i := 0) rfl, (HT5.out.grow g).x.cell (i := 1) rfl, (HT5.out.grow g).x.cell (i := 2) rfl, (HT5.out.grow g).x.cell (i := 3) rfl, (HT5.out.grow g).x.cell (i := 4) rfl⟩
   have HZ : Hid (∀ W, W5.grownBy W none → W.cell? ⟨SB, 0, none⟩ = some (.slice A.ea c.n A.ec) ∧ W.cell? ⟨SB, 1, none⟩ = some (.slice A.va c.n A.vc)) := fun W g => ⟨(HT5.out.grow g).s.k.cell (i := 0) rfl, (HT5.out.grow g).s.k.cell (i := 1) rfl⟩
   refine region_lg 11 (World.grownBy.refl _ _) (by kernel_rfl) (by kernel_rfl) (by kernel_rfl) (by kernel_rfl) ?_
   simp only [List.take_succ_cons, List.take_zero]
   repeat (first
    | (refine lx_end fun W0 GR => ?_)
    | (refine lx_no ?_ ?_ ?_; (· simp [Region.wanted, yielded]; done); (· kernel_rfl); simp only [Act.put, List.setIfInBounds_toArray, List.set_cons_succ, List.set_cons_zero])
    | (refine lx_val (v := ?_) ?_ ?_ ?_ ?_; rotate_left; (· kernel_rfl); (· exact ⟨by kernel_rfl, rfl⟩); (· intro W g; simp [go_sem, (HX.out W g).1, (HX.out W g).2.2, (HY.out W g).1, (HY.out W g).2.1, (HY.out W g).2.2.1, (HY.out W g).2.2.2.1, (HY.out W g).2.2.2.2, q5]; rfl); simp only [Act.put, List.setIfInBounds_toArray, List.set_cons_succ, List.set_cons_zero])
    | (refine lx_callg (fun W _ => HPt.out W) ?_ ?_ ?_ ?_; (· kernel_rfl); (· exact ⟨by kernel_rfl, rfl⟩); (· intro W g; simp [go_sem]; done); simp only [Act.put, List.setIfInBounds_toArray, List.set_cons_succ, List.set_cons_zero]))
   simp only [List.drop_succ_cons, List.drop_zero]
   have y4 := (HY.out W0 GR).2.2.2.2
   have y1 := (HX.out W0 GR).2.1
   go_wp2_with (first | (go_at_call 42; refine (HM.out _ _ _).mono ?_; rintro e w3 ⟨rfl, hw3⟩; rw [hw3]; clear hw3 w3; simp only [cond_true]) | (go_at_call 77; refine (HFit.out _).mono ?_; rintro e w6 ⟨rfl, hw6⟩; rw [hw6]; clear hw6 w6))
   refine region_lg 13 GR (by kernel_rfl) (by kernel_rfl) (by kernel_rfl) (by kernel_rfl) ?_
   simp only [List.take_succ_cons, List.take_zero]
   repeat (first
    | (refine lx_end fun W7 G7 => ?_)
    | (refine lx_no ?_ ?_ ?_; (· simp [Region.wanted, yielded]; done); (· kernel_rfl); simp only [Act.put, List.setIfInBounds_toArray, List.set_cons_succ, List.set_cons_zero])
    | (refine lx_val (v := ?_) ?_ ?_ ?_ ?_; rotate_left; (· kernel_rfl); (· exact ⟨by kernel_rfl, rfl⟩); (· intro W g; simp [go_sem, (HX.out W g).1, (HY.out W g).2.1, (HZ.out W g).1, (HZ.out W g).2, q7]; rfl); simp only [Act.put, List.setIfInBounds_toArray, List.set_cons_succ, List.set_cons_zero])
    | (refine lx_callg (fun W _ => HEn.out W) ?_ ?_ ?_ ?_; (· kernel_rfl); (· exact ⟨by kernel_rfl, rfl⟩); (· intro W g; simp [go_sem]; done); simp only [Act.put, List.setIfInBounds_toArray, List.set_cons_succ, List.set_cons_zero]))
   simp only [List.drop_succ_cons, List.drop_zero]
   go_wp2_with (go_at_call 42; refine (HM.out _ _ _).mono ?_; rintro e w3 ⟨rfl, hw3⟩; rw [hw3]; clear hw3 w3; simp only [cond_true])
   cases htms : Ck.tms c args with
   | error er =>
    have HTs2 := HTs.out
    rw [htms] at HTs2
    have HTs3 : Hid (∀ W, T5 N w W SB c A loops (nodes + 1) (deep + 1) B3 [.int .i64 op, .int .i64 t, .int .i64 n, .string s, .slice a args.length k] → Calls Tryz.prog 79 #[.pointer (some ⟨SB, 0, none⟩), .slice a args.length k] W fun e w' => e = ckF er ∧ Ch W w' [SB]) := fun W hT => (HTs2 W hT).mono fun e w' h9 => ⟨h9.2, h9.1⟩
    clear HTs2
    refine region_lu (fun w w' => Ch w w' [SB]) (fun w w' => w.grownBy w' none) (fun W => T5 N w W SB c A loops (nodes + 1) (deep + 1) B3 [.int .i64 op, .int .i64 t, .int .i64 n, .string s, .slice a args.length k]) 7 (fun h1 h2 => h1.trans h2) (fun w => World.grownBy.refl _ _) (fun h => Ch.of h) (fun g h => h.grow g) 9 [.val (.pointer (some ⟨B5, 2, none⟩)), .val (.func (.func q) #[] #[]), .val (.pointer (some ⟨SB, 0, none⟩)), .val (exV op t n s a args.length k), .val (.pointer (some ⟨SB, 0, none⟩)), .val (.pointer (some ⟨B3, 4, none⟩)), .val (.slice a args.length k), .stop, .never] rfl (by kernel_rfl) (by kernel_rfl) (by kernel_rfl) (by kernel_rfl) (HT5.out.grow (grown_drew G7)) ?_
    simp only [List.take_succ_cons, List.take_zero]
    have HC8 : Hid (∀ W, Ch W7.drew W [SB] → W.cell? ⟨B5, 2, none⟩ = some (.func (.func q) #[] #[]) ∧ W.cell? ⟨B3, 0, none⟩ = some (.int .i64 op) ∧ W.cell? ⟨B3, 1, none⟩ = some (.int .i64 t) ∧ W.cell? ⟨B3, 2, none⟩ = some (.int .i64 n) ∧ W.cell? ⟨B3, 3, none⟩ = some (.string s) ∧ W.cell? ⟨B3, 4, none⟩ = some (.slice a args.length k)) := fun W g => by
     have hx := HX.out _ (grown_drew G7)
     have hy := HY.out _ (grown_drew G7)
     exact ⟨g.cell hx.2.2 (by simp; omega), g.cell hy.1 (by simp; omega), g.cell hy.2.1 (by simp; omega), g.cell hy.2.2.1 (by simp; omega), g.cell hy.2.2.2.1 (by simp; omega), g.cell hy.2.2.2.2 (by simp; omega)⟩
    repeat (refine lu_val (x := _) rfl ?_ ?_ (fun w => World.grownBy.refl _ _) (fun h => Ch.of h) ?_ ?_; (· kernel_rfl); (· exact ⟨by kernel_rfl, rfl⟩); (· intro W g; simp [go_sem, (HC8.out W g).1, (HC8.out W g).2.1, (HC8.out W g).2.2.1, (HC8.out W g).2.2.2.1, (HC8.out W g).2.2.2.2.1, (HC8.out W g).2.2.2.2.2]; done); simp only [Act.put, List.setIfInBounds_toArray, List.set_cons_succ, List.set_cons_zero])
    refine lu_stop (f := 79) (args := #[.pointer (some ⟨SB, 0, none⟩), .slice a args.length k]) (c := [{ v := .iface 102 (.agg #[.int .i64 er]), recovered := false }]) rfl (by kernel_rfl) ⟨by kernel_rfl, rfl⟩ (fun W g => by simp [go_sem]) (fun W g hu _ => (HTs3.out W (hu rfl)).mono fun e w' h9 => ⟨h9.1, fun a9 hd9 => by have hT9 := hu rfl; exact ⟨hd9, by rw [HR.out, HPre.out, htms]; simp [Ck.must, ckE, bind, Except.bind], hT9.g.trans h9.2, by rw [HR.out, HPre.out, htms]; simp [Ck.must, bind, Except.bind]⟩⟩) ?_
    refine lu_never rfl (by decide +kernel) (by kernel_rfl) ?_
    exact lu_lost
   | ok vs =>
    obtain ⟨hve, hvl⟩ := HEnt.out vs htms (by first | trivial | rfl) HPT.out
    have HTs2 := HTs.out
    rw [htms] at HTs2
    have HTs3 : Hid (∀ W, Ch W7.drew W [SB] → T5 N w W SB c A loops (nodes + 1) (deep + 1) B3 [.int .i64 op, .int .i64 t, .int .i64 n, .string s, .slice a args.length k] → Calls Tryz.prog 79 #[.pointer (some ⟨SB, 0, none⟩), .slice a args.length k] W fun e w' => ∃ v, e = .returned v ∧ Ch W w' [SB] ∧ (OwnZ w' W7.heap.size v vs ∧ T5 N w w' SB c A loops (nodes + nd) (deep + 1) B3 [.int .i64 op, .int .i64 t, .int .i64 n, .string s, .slice a args.length k])) := fun W g hT => (HTs2 W hT).mono fun e w' h9 => by
     obtain ⟨hg, v, hv, ho, hs⟩ := h9
     exact ⟨v, hv, hg, ho.low (by have := g.size; simpa using this), hs, hT.x.ch hg (by simp; omega), hT.g.trans hg⟩
    clear HTs2
    have HAs2 : Hid (∀ W v, OwnZ W W7.heap.size v vs → T5 N w W SB c A loops (nodes + nd) (deep + 1) B3 [.int .i64 op, .int .i64 t, .int .i64 n, .string s, .slice a args.length k] → ∃ aa ac, v = .slice aa vs.length ac ∧ CkM q W SB op t n s a args.length k aa vs.length ac (Ck.ask c op t n vs)) := fun W v ho hT => by
     obtain ⟨aa, ac, hv, h1, h2, h3⟩ := ho.slice
     refine ⟨aa, ac, hv, HAs.out W aa ac vs hT (by first | trivial | rfl) HPT.out hvl hve W.heap.size ?_⟩
     exact ⟨h1, h2, by
      by_cases h0 : vs.length = 0
      ·exact .inl h0
      ·obtain ⟨T, e1, e2, e3⟩ := h3 (by omega)
       subst e1
       subst hv
       exact .inr ⟨T, 0, rfl, e3, fun i hi => by rw [Nat.zero_add]; exact ho.n.cell hi⟩⟩
    cases hask : Ck.ask c op t n vs with
    | error er =>
     rw [hask] at HAs2
     refine region_lu (fun w w' => Ch w w' [SB]) (fun w w' => w.grownBy w' none) (fun W => T5 N w W SB c A loops (nodes + 1) (deep + 1) B3 [.int .i64 op, .int .i64 t, .int .i64 n, .string s, .slice a args.length k]) 7 (fun h1 h2 => h1.trans h2) (fun w => World.grownBy.refl _ _) (fun h => Ch.of h) (fun g h => h.grow g) 9 [.val (.pointer (some ⟨B5, 2, none⟩)), .val (.func (.func q) #[] #[]), .val (.pointer (some ⟨SB, 0, none⟩)), .val (exV op t n s a args.length k), .val (.pointer (some ⟨SB, 0, none⟩)), .val (.pointer (some ⟨B3, 4, none⟩)), .val (.slice a args.length k), .prop (fun v w9 => OwnZ w9 W7.heap.size v vs ∧ T5 N w w9 SB c A loops (nodes + nd) (deep + 1) B3 [.int .i64 op, .int .i64 t, .int .i64 n, .string s, .slice a args.length k]), .stop] rfl (by kernel_rfl) (by kernel_rfl) (by kernel_rfl) (by kernel_rfl) (HT5.out.grow (grown_drew G7)) ?_
     simp only [List.take_succ_cons, List.take_zero]
     have HC8 : Hid (∀ W, Ch W7.drew W [SB] → W.cell? ⟨B5, 2, none⟩ = some (.func (.func q) #[] #[]) ∧ W.cell? ⟨B3, 0, none⟩ = some (.int .i64 op) ∧ W.cell? ⟨B3, 1, none⟩ = some (.int .i64 t) ∧ W.cell? ⟨B3, 2, none⟩ = some (.int .i64 n) ∧ W.cell? ⟨B3, 3, none⟩ = some (.string s) ∧ W.cell? ⟨B3, 4, none⟩ = some (.slice a args.length k)) := fun W g => by
      have hx := HX.out _ (grown_drew G7)
      have hy := HY.out _ (grown_drew G7)
      exact ⟨g.cell hx.2.2 (by simp; omega), g.cell hy.1 (by simp; omega), g.cell hy.2.1 (by simp; omega), g.cell hy.2.2.1 (by simp; omega), g.cell hy.2.2.2.1 (by simp; omega), g.cell hy.2.2.2.2 (by simp; omega)⟩
     repeat (refine lu_val (x := _) rfl ?_ ?_ (fun w => World.grownBy.refl _ _) (fun h => Ch.of h) ?_ ?_; (· kernel_rfl); (· exact ⟨by kernel_rfl, rfl⟩); (· intro W g; simp [go_sem, (HC8.out W g).1, (HC8.out W g).2.1, (HC8.out W g).2.2.1, (HC8.out W g).2.2.2.1, (HC8.out W g).2.2.2.2.1, (HC8.out W g).2.2.2.2.2]; done); simp only [Act.put, List.setIfInBounds_toArray, List.set_cons_succ, List.set_cons_zero])
     refine lu_prop (f := 79) (args := #[.pointer (some ⟨SB, 0, none⟩), .slice a args.length k]) rfl (by kernel_rfl) ⟨by kernel_rfl, rfl⟩ ?_ (fun W g => by simp [go_sem]) (fun W g hu _ => HTs3.out W g (hu rfl)) ?_
     ·intro v W W9 h9 hg9
      rw [show Rof (fun w w' => w.grownBy w' none) (fun w w' => Ch w w' [SB]) 7 (0 + 1 + 1 + 1 + 1 + 1 + 1 + 1) = (fun w w' : World => w.grownBy w' none) from rfl] at hg9
      exact ⟨h9.1.grow hg9, h9.2.grow hg9⟩
     intro v
     simp only [Act.put, List.setIfInBounds_toArray, List.set_cons_succ, List.set_cons_zero]
     refine lu_stop (f := q) (args := #[.pointer (some ⟨SB, 0, none⟩), exV op t n s a args.length k, v]) (c := [{ v := .iface 102 (.agg #[.int .i64 er]), recovered := false }]) rfl (by kernel_rfl) ⟨by kernel_rfl, rfl⟩ (fun W g => by simp [go_sem, HCf.out]) (fun W g _ hh => ?_) ?_
     ·have h9 := hh (7, fun w9 => OwnZ w9 W7.heap.size v vs ∧ T5 N w w9 SB c A loops (nodes + nd) (deep + 1) B3 [.int .i64 op, .int .i64 t, .int .i64 n, .string s, .slice a args.length k]) (by simp) (by kernel_rfl)
      obtain ⟨aa, ac, hv, hM⟩ := HAs2.out W v h9.1 h9.2
      subst hv
      exact Calls.mono hM fun e w' h8 => ⟨h8.1, fun a9 hd9 => ⟨hd9, by rw [HR.out, HPre.out, htms]; simp [Ck.must, ckE, bind, Except.bind, hask], h9.2.g.trans (Ch.of h8.2), by rw [HR.out, HPre.out, htms]; simp [Ck.must, bind, Except.bind, hask]⟩⟩
     exact lu_lost
    | ok v9 =>
     rw [hask] at HAs2
     refine region_lu (fun w w' => Ch w w' [SB]) (fun w w' => w.grownBy w' none) (fun W => T5 N w W SB c A loops (nodes + 1) (deep + 1) B3 [.int .i64 op, .int .i64 t, .int .i64 n, .string s, .slice a args.length k]) 7 (fun h1 h2 => h1.trans h2) (fun w => World.grownBy.refl _ _) (fun h => Ch.of h) (fun g h => h.grow g) 9 [.val (.pointer (some ⟨B5, 2, none⟩)), .val (.func (.func q) #[] #[]), .val (.pointer (some ⟨SB, 0, none⟩)), .val (exV op t n s a args.length k), .val (.pointer (some ⟨SB, 0, none⟩)), .val (.pointer (some ⟨B3, 4, none⟩)), .val (.slice a args.length k), .prop (fun v w9 => OwnZ w9 W7.heap.size v vs ∧ T5 N w w9 SB c A loops (nodes + nd) (deep + 1) B3 [.int .i64 op, .int .i64 t, .int .i64 n, .string s, .slice a args.length k]), .val (.int .i64 v9)] rfl (by kernel_rfl) (by kernel_rfl) (by kernel_rfl) (by kernel_rfl) (HT5.out.grow (grown_drew G7)) ?_
     simp only [List.take_succ_cons, List.take_zero]
     have HC8 : Hid (∀ W, Ch W7.drew W [SB] → W.cell? ⟨B5, 2, none⟩ = some (.func (.func q) #[] #[]) ∧ W.cell? ⟨B3, 0, none⟩ = some (.int .i64 op) ∧ W.cell? ⟨B3, 1, none⟩ = some (.int .i64 t) ∧ W.cell? ⟨B3, 2, none⟩ = some (.int .i64 n) ∧ W.cell? ⟨B3, 3, none⟩ = some (.string s) ∧ W.cell? ⟨B3, 4, none⟩ = some (.slice a args.length k)) := fun W g => by
      have hx := HX.out _ (grown_drew G7)
      have hy := HY.out _ (grown_drew G7)
      exact ⟨g.cell hx.2.2 (by simp; omega), g.cell hy.1 (by simp; omega), g.cell hy.2.1 (by simp; omega), g.cell hy.2.2.1 (by simp; omega), g.cell hy.2.2.2.1 (by simp; omega), g.cell hy.2.2.2.2 (by simp; omega)⟩
     repeat (refine lu_val (x := _) rfl ?_ ?_ (fun w => World.grownBy.refl _ _) (fun h => Ch.of h) ?_ ?_; (· kernel_rfl); (· exact ⟨by kernel_rfl, rfl⟩); (· intro W g; simp [go_sem, (HC8.out W g).1, (HC8.out W g).2.1, (HC8.out W g).2.2.1, (HC8.out W g).2.2.2.1, (HC8.out W g).2.2.2.2.1, (HC8.out W g).2.2.2.2.2]; done); simp only [Act.put, List.setIfInBounds_toArray, List.set_cons_succ, List.set_cons_zero])
     refine lu_prop (f := 79) (args := #[.pointer (some ⟨SB, 0, none⟩), .slice a args.length k]) rfl (by kernel_rfl) ⟨by kernel_rfl, rfl⟩ ?_ (fun W g => by simp [go_sem]) (fun W g hu _ => HTs3.out W g (hu rfl)) ?_
     ·intro v W W9 h9 hg9
      rw [show Rof (fun w w' => w.grownBy w' none) (fun w w' => Ch w w' [SB]) 7 (0 + 1 + 1 + 1 + 1 + 1 + 1 + 1) = (fun w w' : World => w.grownBy w' none) from rfl] at hg9
      exact ⟨h9.1.grow hg9, h9.2.grow hg9⟩
     intro v
     simp only [Act.put, List.setIfInBounds_toArray, List.set_cons_succ, List.set_cons_zero]
     refine lu_call (f := q) (args := #[.pointer (some ⟨SB, 0, none⟩), exV op t n s a args.length k, v]) (x := .int .i64 v9) rfl (by kernel_rfl) ⟨by kernel_rfl, rfl⟩ (fun W g => by simp [go_sem, HCf.out]) (fun W g _ hh => ?_) ?_
     ·have h9 := hh (7, fun w9 => OwnZ w9 W7.heap.size v vs ∧ T5 N w w9 SB c A loops (nodes + nd) (deep + 1) B3 [.int .i64 op, .int .i64 t, .int .i64 n, .string s, .slice a args.length k]) (by simp) (by kernel_rfl)
      obtain ⟨aa, ac, hv, hM⟩ := HAs2.out W v h9.1 h9.2
      subst hv
      exact Calls.mono hM fun e w' h8 => ⟨h8.1, h8.2⟩
     simp only [Act.put, List.setIfInBounds_toArray, List.set_cons_succ, List.set_cons_zero]
     refine lu_end fun W8 g8 hh => ?_
     have h9 := (hh (7, fun w9 => OwnZ w9 W7.heap.size v vs ∧ T5 N w w9 SB c A loops (nodes + nd) (deep + 1) B3 [.int .i64 op, .int .i64 t, .int .i64 n, .string s, .slice a args.length k]) (by simp)).2
     have k9 := h9.s.k.cell (i := 9) rfl
     have f9 := h9.s.k.frozen 9
     have HE : Hid (Ch w (W8.setCell ⟨SB, 9, none⟩ (.int .i64 deep)) [SB] ∧ Sc N (W8.setCell ⟨SB, 9, none⟩ (.int .i64 deep)) SB c A loops (nodes + nd) deep) := ⟨h9.g.trans (Ch.one (grown_set _ _ _ _) (by simp)), h9.s.set9 deep⟩
     have d9 : deep + 1 - 1 = deep := by omega
     clear hh h9
     simp only [List.drop_succ_cons, List.drop_zero]
     go_wp2
     go_ret
     exact ⟨by rw [HR.out, HPre.out, htms]; simp [Ck.must, ckE, bind, Except.bind, hask], HE.out.1, fun _ => HE.out.2⟩
 case false =>
  have HPT : Hid ((false : Bool) = true → ze = true) := fun h => by cases h
  go_enter Tryz.func45, Tryz.ntmps45
  go_wp2_with (first | (go_at_call 42; refine (HM.out _ _ _).mono ?_; rintro e w3 ⟨rfl, hw3⟩; rw [hw3]; clear hw3 w3; simp only [cond_true]) | (go_at_call 75; rw [HW2.out, HB3.out]; refine (HRow.out _).mono ?_; rintro e w4 ⟨rfl, hg4⟩; have HT4 : Hid (T5 N w w4 SB c A loops (nodes + 1) (deep + 1) B3 [.int .i64 op, .int .i64 t, .int .i64 n, .string s, .slice a args.length k]) := HT2.out.grow hg4; clear hg4))
  obtain ⟨W5, hW5⟩ : ∃ W, W = (w4.alloc (Obj.cells #[.int .i64 p, .int .i64 m, .func (.func q) #[] #[]] 122)) := ⟨_, rfl⟩
  obtain ⟨B5, hB5⟩ : ∃ B, B = w4.heap.size := ⟨_, rfl⟩
  rw [← hW5, ← hB5]
  have HT5 : Hid (T5 N w W5 SB c A loops (nodes + 1) (deep + 1) B3 [.int .i64 op, .int .i64 t, .int .i64 n, .string s, .slice a args.length k]) := by rw [hW5]; exact HT4.out.grow (World.grownBy_alloc _ _ _)
  have HK5 : Hid (Bk W5 B5 122 [.int .i64 p, .int .i64 m, .func (.func q) #[] #[]]) := by rw [hW5, hB5]; exact Bk.new _ _ _
  have hB5s : SB < B5 := by have := HT4.out.g.size; omega
  have hB35 : B3 < B5 := by have := HT4.out.x.lt; omega
  clear hW5 hB5 HT4
  have HX : Hid (∀ W, W5.grownBy W none → W.cell? ⟨B5, 0, none⟩ = some (.int .i64 p) ∧ W.cell? ⟨B5, 1, none⟩ = some (.int .i64 m) ∧ W.cell? ⟨B5, 2, none⟩ = some (.func (.func q) #[] #[])) := fun W g => ⟨(HK5.out.grow g).cell (i := 0) rfl, (HK5.out.grow g).cell (i := 1) rfl, (HK5.out.grow g).cell (i := 2) rfl⟩
  have HY : Hid (∀ W, W5.grownBy W none → W.cell? ⟨B3, 0, none⟩ = some (.int .i64 op) ∧ W.cell? ⟨B3, 1, none⟩ = some (.int .i64 t) ∧ W.cell? ⟨B3, 2, none⟩ = some (.int .i64 n) ∧ W.cell? ⟨B3, 3, none⟩ = some (.string s) ∧ W.cell? ⟨B3, 4, none⟩ = some (.slice a args.length k)) := fun W g => ⟨(HT5.out.grow g).x.cell (i := 0) rfl, (HT5.out.grow g).x.cell (i := 1) rfl, (HT5.out.grow g).x.cell (i := 2) rfl, (HT5.out.grow g).x.cell (i := 3) rfl, (HT5.out.grow g).x.cell (i := 4) rfl⟩
  have HZ : Hid (∀ W, W5.grownBy W none → W.cell? ⟨SB, 0, none⟩ = some (.slice A.ea c.n A.ec) ∧ W.cell? ⟨SB, 1, none⟩ = some (.slice A.va c.n A.vc)) := fun W g => ⟨(HT5.out.grow g).s.k.cell (i := 0) rfl, (HT5.out.grow g).s.k.cell (i := 1) rfl⟩
  refine region_lg 11 (World.grownBy.refl _ _) (by kernel_rfl) (by kernel_rfl) (by kernel_rfl) (by kernel_rfl) ?_
  simp only [List.take_succ_cons, List.take_zero]
  repeat (first
   | (refine lx_end fun W0 GR => ?_)
   | (refine lx_no ?_ ?_ ?_; (· simp [Region.wanted, yielded]; done); (· kernel_rfl); simp only [Act.put, List.setIfInBounds_toArray, List.set_cons_succ, List.set_cons_zero])
   | (refine lx_val (v := ?_) ?_ ?_ ?_ ?_; rotate_left; (· kernel_rfl); (· exact ⟨by kernel_rfl, rfl⟩); (· intro W g; simp [go_sem, (HX.out W g).1, (HX.out W g).2.2, (HY.out W g).1, (HY.out W g).2.1, (HY.out W g).2.2.1, (HY.out W g).2.2.2.1, (HY.out W g).2.2.2.2, q5]; rfl); simp only [Act.put, List.setIfInBounds_toArray, List.set_cons_succ, List.set_cons_zero])
   | (refine lx_callg (fun W _ => HPt.out W) ?_ ?_ ?_ ?_; (· kernel_rfl); (· exact ⟨by kernel_rfl, rfl⟩); (· intro W g; simp [go_sem]; done); simp only [Act.put, List.setIfInBounds_toArray, List.set_cons_succ, List.set_cons_zero]))
  simp only [List.drop_succ_cons, List.drop_zero]
  have y4 := (HY.out W0 GR).2.2.2.2
  have y1 := (HX.out W0 GR).2.1
  go_wp2_with (first | (go_at_call 42; refine (HM.out _ _ _).mono ?_; rintro e w3 ⟨rfl, hw3⟩; rw [hw3]; clear hw3 w3; simp only [cond_true]) | (go_at_call 77; refine (HFit.out _).mono ?_; rintro e w6 ⟨rfl, hw6⟩; rw [hw6]; clear hw6 w6))
  refine region_lg 13 GR (by kernel_rfl) (by kernel_rfl) (by kernel_rfl) (by kernel_rfl) ?_
  simp only [List.take_succ_cons, List.take_zero]
  repeat (first
   | (refine lx_end fun W7 G7 => ?_)
   | (refine lx_no ?_ ?_ ?_; (· simp [Region.wanted, yielded]; done); (· kernel_rfl); simp only [Act.put, List.setIfInBounds_toArray, List.set_cons_succ, List.set_cons_zero])
   | (refine lx_val (v := ?_) ?_ ?_ ?_ ?_; rotate_left; (· kernel_rfl); (· exact ⟨by kernel_rfl, rfl⟩); (· intro W g; simp [go_sem, (HX.out W g).1, q7]; rfl); simp only [Act.put, List.setIfInBounds_toArray, List.set_cons_succ, List.set_cons_zero])
   | (refine lx_callg (fun W _ => HEn.out W) ?_ ?_ ?_ ?_; (· kernel_rfl); (· exact ⟨by kernel_rfl, rfl⟩); (· intro W g; simp [go_sem]; done); simp only [Act.put, List.setIfInBounds_toArray, List.set_cons_succ, List.set_cons_zero]))
  simp only [List.drop_succ_cons, List.drop_zero]
  go_wp2_with (go_at_call 42; refine (HM.out _ _ _).mono ?_; rintro e w3 ⟨rfl, hw3⟩; rw [hw3]; clear hw3 w3; simp only [cond_true])
  cases htms : Ck.tms c args with
  | error er =>
   have HTs2 := HTs.out
   rw [htms] at HTs2
   have HTs3 : Hid (∀ W, T5 N w W SB c A loops (nodes + 1) (deep + 1) B3 [.int .i64 op, .int .i64 t, .int .i64 n, .string s, .slice a args.length k] → Calls Tryz.prog 79 #[.pointer (some ⟨SB, 0, none⟩), .slice a args.length k] W fun e w' => e = ckF er ∧ Ch W w' [SB]) := fun W hT => (HTs2 W hT).mono fun e w' h9 => ⟨h9.2, h9.1⟩
   clear HTs2
   refine region_lu (fun w w' => Ch w w' [SB]) (fun w w' => w.grownBy w' none) (fun W => T5 N w W SB c A loops (nodes + 1) (deep + 1) B3 [.int .i64 op, .int .i64 t, .int .i64 n, .string s, .slice a args.length k]) 7 (fun h1 h2 => h1.trans h2) (fun w => World.grownBy.refl _ _) (fun h => Ch.of h) (fun g h => h.grow g) 9 [.val (.pointer (some ⟨B5, 2, none⟩)), .val (.func (.func q) #[] #[]), .val (.pointer (some ⟨SB, 0, none⟩)), .val (exV op t n s a args.length k), .val (.pointer (some ⟨SB, 0, none⟩)), .val (.pointer (some ⟨B3, 4, none⟩)), .val (.slice a args.length k), .stop, .never] rfl (by kernel_rfl) (by kernel_rfl) (by kernel_rfl) (by kernel_rfl) (HT5.out.grow (grown_drew G7)) ?_
   simp only [List.take_succ_cons, List.take_zero]
   have HC8 : Hid (∀ W, Ch W7.drew W [SB] → W.cell? ⟨B5, 2, none⟩ = some (.func (.func q) #[] #[]) ∧ W.cell? ⟨B3, 0, none⟩ = some (.int .i64 op) ∧ W.cell? ⟨B3, 1, none⟩ = some (.int .i64 t) ∧ W.cell? ⟨B3, 2, none⟩ = some (.int .i64 n) ∧ W.cell? ⟨B3, 3, none⟩ = some (.string s) ∧ W.cell? ⟨B3, 4, none⟩ = some (.slice a args.length k)) := fun W g => by
    have hx := HX.out _ (grown_drew G7)
    have hy := HY.out _ (grown_drew G7)
    exact ⟨g.cell hx.2.2 (by simp; omega), g.cell hy.1 (by simp; omega), g.cell hy.2.1 (by simp; omega), g.cell hy.2.2.1 (by simp; omega), g.cell hy.2.2.2.1 (by simp; omega), g.cell hy.2.2.2.2 (by simp; omega)⟩
   repeat (refine lu_val (x := _) rfl ?_ ?_ (fun w => World.grownBy.refl _ _) (fun h => Ch.of h) ?_ ?_; (· kernel_rfl); (· exact ⟨by kernel_rfl, rfl⟩); (· intro W g; simp [go_sem, (HC8.out W g).1, (HC8.out W g).2.1, (HC8.out W g).2.2.1, (HC8.out W g).2.2.2.1, (HC8.out W g).2.2.2.2.1, (HC8.out W g).2.2.2.2.2]; done); simp only [Act.put, List.setIfInBounds_toArray, List.set_cons_succ, List.set_cons_zero])
   refine lu_stop (f := 79) (args := #[.pointer (some ⟨SB, 0, none⟩), .slice a args.length k]) (c := [{ v := .iface 102 (.agg #[.int .i64 er]), recovered := false }]) rfl (by kernel_rfl) ⟨by kernel_rfl, rfl⟩ (fun W g => by simp [go_sem]) (fun W g hu _ => (HTs3.out W (hu rfl)).mono fun e w' h9 => ⟨h9.1, fun a9 hd9 => by have hT9 := hu rfl; exact ⟨hd9, by rw [HR.out, HPre.out, htms]; simp [Ck.must, ckE, bind, Except.bind], hT9.g.trans h9.2, by rw [HR.out, HPre.out, htms]; simp [Ck.must, bind, Except.bind]⟩⟩) ?_
   refine lu_never rfl (by decide +kernel) (by kernel_rfl) ?_
   exact lu_lost
  | ok vs =>
   obtain ⟨hve, hvl⟩ := HEnt.out vs htms (by first | trivial | rfl) HPT.out
   have HTs2 := HTs.out
   rw [htms] at HTs2
   have HTs3 : Hid (∀ W, Ch W7.drew W [SB] → T5 N w W SB c A loops (nodes + 1) (deep + 1) B3 [.int .i64 op, .int .i64 t, .int .i64 n, .string s, .slice a args.length k] → Calls Tryz.prog 79 #[.pointer (some ⟨SB, 0, none⟩), .slice a args.length k] W fun e w' => ∃ v, e = .returned v ∧ Ch W w' [SB] ∧ (OwnZ w' W7.heap.size v vs ∧ T5 N w w' SB c A loops (nodes + nd) (deep + 1) B3 [.int .i64 op, .int .i64 t, .int .i64 n, .string s, .slice a args.length k])) := fun W g hT => (HTs2 W hT).mono fun e w' h9 => by
    obtain ⟨hg, v, hv, ho, hs⟩ := h9
    exact ⟨v, hv, hg, ho.low (by have := g.size; simpa using this), hs, hT.x.ch hg (by simp; omega), hT.g.trans hg⟩
   clear HTs2
   have HAs2 : Hid (∀ W v, OwnZ W W7.heap.size v vs → T5 N w W SB c A loops (nodes + nd) (deep + 1) B3 [.int .i64 op, .int .i64 t, .int .i64 n, .string s, .slice a args.length k] → ∃ aa ac, v = .slice aa vs.length ac ∧ CkM q W SB op t n s a args.length k aa vs.length ac (Ck.ask c op t n vs)) := fun W v ho hT => by
    obtain ⟨aa, ac, hv, h1, h2, h3⟩ := ho.slice
    refine ⟨aa, ac, hv, HAs.out W aa ac vs hT (by first | trivial | rfl) HPT.out hvl hve W.heap.size ?_⟩
    exact ⟨h1, h2, by
     by_cases h0 : vs.length = 0
     ·exact .inl h0
     ·obtain ⟨T, e1, e2, e3⟩ := h3 (by omega)
      subst e1
      subst hv
      exact .inr ⟨T, 0, rfl, e3, fun i hi => by rw [Nat.zero_add]; exact ho.n.cell hi⟩⟩
   cases hask : Ck.ask c op t n vs with
   | error er =>
    rw [hask] at HAs2
    refine region_lu (fun w w' => Ch w w' [SB]) (fun w w' => w.grownBy w' none) (fun W => T5 N w W SB c A loops (nodes + 1) (deep + 1) B3 [.int .i64 op, .int .i64 t, .int .i64 n, .string s, .slice a args.length k]) 7 (fun h1 h2 => h1.trans h2) (fun w => World.grownBy.refl _ _) (fun h => Ch.of h) (fun g h => h.grow g) 9 [.val (.pointer (some ⟨B5, 2, none⟩)), .val (.func (.func q) #[] #[]), .val (.pointer (some ⟨SB, 0, none⟩)), .val (exV op t n s a args.length k), .val (.pointer (some ⟨SB, 0, none⟩)), .val (.pointer (some ⟨B3, 4, none⟩)), .val (.slice a args.length k), .prop (fun v w9 => OwnZ w9 W7.heap.size v vs ∧ T5 N w w9 SB c A loops (nodes + nd) (deep + 1) B3 [.int .i64 op, .int .i64 t, .int .i64 n, .string s, .slice a args.length k]), .stop] rfl (by kernel_rfl) (by kernel_rfl) (by kernel_rfl) (by kernel_rfl) (HT5.out.grow (grown_drew G7)) ?_
    simp only [List.take_succ_cons, List.take_zero]
    have HC8 : Hid (∀ W, Ch W7.drew W [SB] → W.cell? ⟨B5, 2, none⟩ = some (.func (.func q) #[] #[]) ∧ W.cell? ⟨B3, 0, none⟩ = some (.int .i64 op) ∧ W.cell? ⟨B3, 1, none⟩ = some (.int .i64 t) ∧ W.cell? ⟨B3, 2, none⟩ = some (.int .i64 n) ∧ W.cell? ⟨B3, 3, none⟩ = some (.string s) ∧ W.cell? ⟨B3, 4, none⟩ = some (.slice a args.length k)) := fun W g => by
     have hx := HX.out _ (grown_drew G7)
     have hy := HY.out _ (grown_drew G7)
     exact ⟨g.cell hx.2.2 (by simp; omega), g.cell hy.1 (by simp; omega), g.cell hy.2.1 (by simp; omega), g.cell hy.2.2.1 (by simp; omega), g.cell hy.2.2.2.1 (by simp; omega), g.cell hy.2.2.2.2 (by simp; omega)⟩
    repeat (refine lu_val (x := _) rfl ?_ ?_ (fun w => World.grownBy.refl _ _) (fun h => Ch.of h) ?_ ?_; (· kernel_rfl); (· exact ⟨by kernel_rfl, rfl⟩); (· intro W g; simp [go_sem, (HC8.out W g).1, (HC8.out W g).2.1, (HC8.out W g).2.2.1, (HC8.out W g).2.2.2.1, (HC8.out W g).2.2.2.2.1, (HC8.out W g).2.2.2.2.2]; done); simp only [Act.put, List.setIfInBounds_toArray, List.set_cons_succ, List.set_cons_zero])
    refine lu_prop (f := 79) (args := #[.pointer (some ⟨SB, 0, none⟩), .slice a args.length k]) rfl (by kernel_rfl) ⟨by kernel_rfl, rfl⟩ ?_ (fun W g => by simp [go_sem]) (fun W g hu _ => HTs3.out W g (hu rfl)) ?_
    ·intro v W W9 h9 hg9
     rw [show Rof (fun w w' => w.grownBy w' none) (fun w w' => Ch w w' [SB]) 7 (0 + 1 + 1 + 1 + 1 + 1 + 1 + 1) = (fun w w' : World => w.grownBy w' none) from rfl] at hg9
     exact ⟨h9.1.grow hg9, h9.2.grow hg9⟩
    intro v
    simp only [Act.put, List.setIfInBounds_toArray, List.set_cons_succ, List.set_cons_zero]
    refine lu_stop (f := q) (args := #[.pointer (some ⟨SB, 0, none⟩), exV op t n s a args.length k, v]) (c := [{ v := .iface 102 (.agg #[.int .i64 er]), recovered := false }]) rfl (by kernel_rfl) ⟨by kernel_rfl, rfl⟩ (fun W g => by simp [go_sem, HCf.out]) (fun W g _ hh => ?_) ?_
    ·have h9 := hh (7, fun w9 => OwnZ w9 W7.heap.size v vs ∧ T5 N w w9 SB c A loops (nodes + nd) (deep + 1) B3 [.int .i64 op, .int .i64 t, .int .i64 n, .string s, .slice a args.length k]) (by simp) (by kernel_rfl)
     obtain ⟨aa, ac, hv, hM⟩ := HAs2.out W v h9.1 h9.2
     subst hv
     exact Calls.mono hM fun e w' h8 => ⟨h8.1, fun a9 hd9 => ⟨hd9, by rw [HR.out, HPre.out, htms]; simp [Ck.must, ckE, bind, Except.bind, hask], h9.2.g.trans (Ch.of h8.2), by rw [HR.out, HPre.out, htms]; simp [Ck.must, bind, Except.bind, hask]⟩⟩
    exact lu_lost
   | ok v9 =>
    rw [hask] at HAs2
    refine region_lu (fun w w' => Ch w w' [SB]) (fun w w' => w.grownBy w' none) (fun W => T5 N w W SB c A loops (nodes + 1) (deep + 1) B3 [.int .i64 op, .int .i64 t, .int .i64 n, .string s, .slice a args.length k]) 7 (fun h1 h2 => h1.trans h2) (fun w => World.grownBy.refl _ _) (fun h => Ch.of h) (fun g h => h.grow g) 9 [.val (.pointer (some ⟨B5, 2, none⟩)), .val (.func (.func q) #[] #[]), .val (.pointer (some ⟨SB, 0, none⟩)), .val (exV op t n s a args.length k), .val (.pointer (some ⟨SB, 0, none⟩)), .val (.pointer (some ⟨B3, 4, none⟩)), .val (.slice a args.length k), .prop (fun v w9 => OwnZ w9 W7.heap.size v vs ∧ T5 N w w9 SB c A loops (nodes + nd) (deep + 1) B3 [.int .i64 op, .int .i64 t, .int .i64 n, .string s, .slice a args.length k]), .val (.int .i64 v9)] rfl (by kernel_rfl) (by kernel_rfl) (by kernel_rfl) (by kernel_rfl) (HT5.out.grow (grown_drew G7)) ?_
    simp only [List.take_succ_cons, List.take_zero]
    have HC8 : Hid (∀ W, Ch W7.drew W [SB] → W.cell? ⟨B5, 2, none⟩ = some (.func (.func q) #[] #[]) ∧ W.cell? ⟨B3, 0, none⟩ = some (.int .i64 op) ∧ W.cell? ⟨B3, 1, none⟩ = some (.int .i64 t) ∧ W.cell? ⟨B3, 2, none⟩ = some (.int .i64 n) ∧ W.cell? ⟨B3, 3, none⟩ = some (.string s) ∧ W.cell? ⟨B3, 4, none⟩ = some (.slice a args.length k)) := fun W g => by
     have hx := HX.out _ (grown_drew G7)
     have hy := HY.out _ (grown_drew G7)
     exact ⟨g.cell hx.2.2 (by simp; omega), g.cell hy.1 (by simp; omega), g.cell hy.2.1 (by simp; omega), g.cell hy.2.2.1 (by simp; omega), g.cell hy.2.2.2.1 (by simp; omega), g.cell hy.2.2.2.2 (by simp; omega)⟩
    repeat (refine lu_val (x := _) rfl ?_ ?_ (fun w => World.grownBy.refl _ _) (fun h => Ch.of h) ?_ ?_; (· kernel_rfl); (· exact ⟨by kernel_rfl, rfl⟩); (· intro W g; simp [go_sem, (HC8.out W g).1, (HC8.out W g).2.1, (HC8.out W g).2.2.1, (HC8.out W g).2.2.2.1, (HC8.out W g).2.2.2.2.1, (HC8.out W g).2.2.2.2.2]; done); simp only [Act.put, List.setIfInBounds_toArray, List.set_cons_succ, List.set_cons_zero])
    refine lu_prop (f := 79) (args := #[.pointer (some ⟨SB, 0, none⟩), .slice a args.length k]) rfl (by kernel_rfl) ⟨by kernel_rfl, rfl⟩ ?_ (fun W g => by simp [go_sem]) (fun W g hu _ => HTs3.out W g (hu rfl)) ?_
    ·intro v W W9 h9 hg9
     rw [show Rof (fun w w' => w.grownBy w' none) (fun w w' => Ch w w' [SB]) 7 (0 + 1 + 1 + 1 + 1 + 1 + 1 + 1) = (fun w w' : World => w.grownBy w' none) from rfl] at hg9
     exact ⟨h9.1.grow hg9, h9.2.grow hg9⟩
    intro v
    simp only [Act.put, List.setIfInBounds_toArray, List.set_cons_succ, List.set_cons_zero]
    refine lu_call (f := q) (args := #[.pointer (some ⟨SB, 0, none⟩), exV op t n s a args.length k, v]) (x := .int .i64 v9) rfl (by kernel_rfl) ⟨by kernel_rfl, rfl⟩ (fun W g => by simp [go_sem, HCf.out]) (fun W g _ hh => ?_) ?_
    ·have h9 := hh (7, fun w9 => OwnZ w9 W7.heap.size v vs ∧ T5 N w w9 SB c A loops (nodes + nd) (deep + 1) B3 [.int .i64 op, .int .i64 t, .int .i64 n, .string s, .slice a args.length k]) (by simp) (by kernel_rfl)
     obtain ⟨aa, ac, hv, hM⟩ := HAs2.out W v h9.1 h9.2
     subst hv
     exact Calls.mono hM fun e w' h8 => ⟨h8.1, h8.2⟩
    simp only [Act.put, List.setIfInBounds_toArray, List.set_cons_succ, List.set_cons_zero]
    refine lu_end fun W8 g8 hh => ?_
    have h9 := (hh (7, fun w9 => OwnZ w9 W7.heap.size v vs ∧ T5 N w w9 SB c A loops (nodes + nd) (deep + 1) B3 [.int .i64 op, .int .i64 t, .int .i64 n, .string s, .slice a args.length k]) (by simp)).2
    have k9 := h9.s.k.cell (i := 9) rfl
    have f9 := h9.s.k.frozen 9
    have HE : Hid (Ch w (W8.setCell ⟨SB, 9, none⟩ (.int .i64 deep)) [SB] ∧ Sc N (W8.setCell ⟨SB, 9, none⟩ (.int .i64 deep)) SB c A loops (nodes + nd) deep) := ⟨h9.g.trans (Ch.one (grown_set _ _ _ _) (by simp)), h9.s.set9 deep⟩
    have d9 : deep + 1 - 1 = deep := by omega
    clear hh h9
    simp only [List.drop_succ_cons, List.drop_zero]
    go_wp2
    go_ret
    exact ⟨by rw [HR.out, HPre.out, htms]; simp [Ck.must, ckE, bind, Except.bind, hask], HE.out.1, fun _ => HE.out.2⟩
theorem ckTerm (x : Pg.Ex) : TmX x := Pg.Ex.ind (P := TmX) (fun op t n s args ih => by
 cases hr : Ck.trow op n with
 | none => exact ckTerm_none hr
 | some r =>
  obtain ⟨pT, pN, pS, m⟩ := r
  exact ckTerm_some ih hr) x
end Go.Proofs.YtpcgkggpmipiaaaGreat
