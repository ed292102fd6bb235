/- Contracts and plain facts that the walks share. -/
import Derived.Test.YtpcgkggpmipiaaaGreatG10
import Derived.Test.YtpcgkggpmipiaaaGreatCkTerm
import Derived.Test.YtpcgkggpmipiaaaGreatCkRowS
import Derived.Test.YtpcgkggpmipiaaaGreatG18
namespace Go.Proofs.YtpcgkggpmipiaaaGreat
set_option maxRecDepth 100000
set_option maxHeartbeats 32000000
open Go.RowKit
set_option linter.unusedVariables false
set_option maxRecDepth 100000
structure Sx (N : Nat) (w : World) (SB : Nat) (c : Ck.En) (A : ScA) (lp : Nat) (nodes deep : Int) : Prop where
 s : Sc N w SB c A lp nodes deep
 f : FnL (fun b => b < N) w A.fa A.fc c.fs
theorem Sx.grow {N : Nat} {w w' : World} {SB : Nat} {c : Ck.En} {A : ScA} {lp : Nat} {nodes deep : Int} (h : Sx N w SB c A lp nodes deep) (g : w.grownBy w' none) : Sx N w' SB c A lp nodes deep := ⟨h.s.grow g, FnL.ch (l := []) h.f (Ch.of g) (by simp) (fun _ h => h)⟩
def StX (x : Pg.St) : Prop := ∀ (N : Nat) (w : World) (SB : Nat) (c : Ck.En) (A : ScA) (lp : Nat) (nodes deep : Int) (a1 a2 a3 a4 : Option Addr) (k1 k2 k3 k4 : Nat), Ck.Wf c → Ck.Fok c → Sx N w SB c A lp nodes deep →
 ExL (fun b => b < N) w a1 k1 x.args → NumL (fun b => b < N) w a2 k2 x.dst → StL (fun b => b < N) w a3 k3 x.a → StL (fun b => b < N) w a4 k4 x.b → 0 ≤ nodes → nodes + x.dl.nd < 33554432 → 0 ≤ deep → deep + x.dl.dp < 65536 → lp + x.dl.dp < 1000000000 →
 Calls Tryz.prog 95 #[.pointer (some ⟨SB, 0, none⟩), stV x.op x.n a1 x.args.length k1 a2 x.dst.length k2 a3 x.a.length k3 a4 x.b.length k4] w fun e w' => e = ckE (fun _ => Value.tuple #[]) (Ck.sm c lp x) ∧ Ch w w' [SB] ∧ (Ck.sm c lp x = .ok () → ∃ nodes', nodes ≤ nodes' ∧ nodes' ≤ nodes + x.dl.nd ∧ Sx N w' SB c A lp nodes' deep)
theorem ckStatements (l : List Pg.St) (ih : ∀ y, y ∈ l → StX y) {N : Nat} {w : World} {SB : Nat} {c : Ck.En} {A : ScA} {lp : Nat} {nodes deep : Int} {a : Option Addr} {k : Nat} (hc : Ck.Wf c) (hf : Ck.Fok c) (h : Sx N w SB c A lp nodes deep) (hl : StL (fun b => b < N) w a k l) (h0 : 0 ≤ nodes) (h1 : nodes + (Pg.dCat Pg.St.dl l).nd < 33554432) (h2 : 0 ≤ deep) (h3 : deep + (Pg.dCat Pg.St.dl l).dp < 65536) (h4 : lp + (Pg.dCat Pg.St.dl l).dp < 1000000000) :
  Calls Tryz.prog 59 #[.pointer (some ⟨SB, 0, none⟩), .slice a l.length k] w fun e w' => e = ckE (fun _ => Value.tuple #[]) (Ck.sms c lp l) ∧ Ch w w' [SB] ∧ (Ck.sms c lp l = .ok () → ∃ nodes', nodes ≤ nodes' ∧ nodes' ≤ nodes + (Pg.dCat Pg.St.dl l).nd ∧ Sx N w' SB c A lp nodes' deep) := by
 have hle := hl.le
 have hmx := hl.max
 unfold maxLen at hmx
 have hSlt := h.s.k.lt
 have hNB := h.s.nb
 have HL : Hid (∀ W, Ch w W [SB] → StL (fun b => b < N) W a k l) := fun W g => StL.ch hl g (by intro b hb; simp; omega) (fun _ h => h)
 have HS : Hid (Sx N w SB c A lp nodes deep) := h
 have HI : Hid (∀ y, y ∈ l → StX y) := ih
 have HC : Hid (Ck.Wf c ∧ Ck.Fok c) := ⟨hc, hf⟩
 have HN : Hid (∀ j, (hj : j < l.length) → nodes + (Pg.dCat Pg.St.dl (l.take j)).nd + (l[j]).dl.nd < 33554432 ∧ deep + (l[j]).dl.dp < 65536 ∧ lp + (l[j]).dl.dp < 1000000000 ∧ nodes + (Pg.dCat Pg.St.dl (l.take (j + 1))).nd = nodes + (Pg.dCat Pg.St.dl (l.take j)).nd + (l[j]).dl.nd) := fun j hj => by
  have e1 := (Pg.nd_succ Pg.St.dl hj)
  have e2 := (Pg.dCat_le Pg.St.dl l (j + 1)).1
  have e3 := (Pg.dCat_le Pg.St.dl l (j + 1)).2.1
  exact ⟨by omega, by omega, by omega, by omega⟩
 obtain ⟨R, hR⟩ : ∃ R, R = Ck.sms c lp l := ⟨_, rfl⟩
 have HR : Hid (R = Ck.sms c lp l) := hR
 rw [← hR]
 obtain ⟨nd, hndd⟩ : ∃ x, x = nodes + ((Pg.dCat Pg.St.dl l).nd : Int) := ⟨_, rfl⟩
 have HD : Hid (nd = nodes + ((Pg.dCat Pg.St.dl l).nd : Int)) := hndd
 rw [← hndd]
 clear hR hndd h hl ih hc hf h1 h3 h4
 go_enter Tryz.func59, Tryz.ntmps59
 go_wp2_with fail
 go_loopw [8] (fun ix wr => ∃ (j : Nat) (q : Int), ix = .int .i64 j ∧ j ≤ l.length ∧ Ck.sms c lp (l.take j) = .ok () ∧ Ch w wr [SB] ∧ nodes ≤ q ∧ q ≤ nodes + (Pg.dCat Pg.St.dl (l.take j)).nd ∧ Sx N wr SB c A lp q deep) (fun ix _ => l.length - (intOf ix).toNat)
 case atStart => exact ⟨0, nodes, rfl, Nat.zero_le _, rfl, Ch.of (World.grownBy.refl _ _), by omega, by omega, HS.out⟩
 case round =>
  obtain ⟨j, q, rfl, hj, hvs, hg, hq1, hq2, hS⟩ := hrel
  have HG : Hid (Ch w wr [SB]) := hg
  have HS2 : Hid (Sx N wr SB c A lp q deep) := hS
  have HV : Hid (Ck.sms c lp (l.take j) = .ok ()) := hvs
  have HQ : Hid (nodes ≤ q ∧ q ≤ nodes + (Pg.dCat Pg.St.dl (l.take j)).nd) := ⟨hq1, hq2⟩
  have hsz := hg.size
  clear hg hS hvs
  by_cases hjn : j < l.length
  ·have hjn' : (j : Int) < l.length := by omega
   obtain ⟨b, o, rfl, hb, hx⟩ := (HL.out wr HG.out).at hjn
   obtain ⟨a1, a2, a3, a4, k1, k2, k3, k4, he⟩ := hx.row
   have c0 := he.c0
   have c1 := he.c1
   have c2 := he.c2
   have c3 := he.c3
   have c4 := he.c4
   have c5 := he.c5
   obtain ⟨n1, n2, n4, n3⟩ := HN.out j hjn
   obtain ⟨y, hy⟩ : ∃ y, y = l[j] := ⟨_, rfl⟩
   rw [← hy] at he c0 c1 c2 c3 c4 c5 n1 n2 n3 n4
   have hX : StX y := by rw [hy]; exact HI.out _ (List.getElem_mem hjn)
   have HY : Hid (Ck.sm c lp l[j] = Ck.sm c lp y) := by show _ = _; rw [hy]
   have HT : Hid (∀ W, wr.grownBy W none → Calls Tryz.prog 95 #[.pointer (some ⟨SB, 0, none⟩), stV y.op y.n a1 y.args.length k1 a2 y.dst.length k2 a3 y.a.length k3 a4 y.b.length k4] W fun e w' => e = ckE (fun _ => Value.tuple #[]) (Ck.sm c lp y) ∧ Ch W w' [SB] ∧ (Ck.sm c lp y = .ok () → ∃ nodes', q ≤ nodes' ∧ nodes' ≤ q + y.dl.nd ∧ Sx N w' SB c A lp nodes' deep)) := fun W g =>
    hX N W SB c A lp q deep a1 a2 a3 a4 k1 k2 k3 k4 HC.out.1 HC.out.2 (HS2.out.grow g) (ExL.ch (l := []) he.args (Ch.of g) (by simp) (fun _ h => h)) (NumL.ch (l := []) he.dst (Ch.of g) (by simp) (fun _ h => h)) (StL.ch (l := []) he.a (Ch.of g) (by simp) (fun _ h => h)) (StL.ch (l := []) he.b (Ch.of g) (by simp) (fun _ h => h)) (by omega) (by omega) h2 n2 n4
   have HN3 : Hid (nodes + ((Pg.dCat Pg.St.dl (l.take (j + 1))).nd : Int) = nodes + (Pg.dCat Pg.St.dl (l.take j)).nd + y.dl.nd) := n3
   clear he hx hX hy n1 n2 n3 n4
   obtain ⟨op, n, args, dst, xa, xb⟩ := y
   simp only [Pg.St.op, Pg.St.n, Pg.St.args, Pg.St.dst, Pg.St.a, Pg.St.b] at c0 c1 c2 c3 c4 c5 HT
   generalize (Pg.St.mk op n args dst xa xb).dl.nd = dy at *
   cases hty : Ck.sm c lp (.mk op n args dst xa xb) with
   | error er =>
    rw [hty] at HT HY
    simp only [ckE] at HT
    go_wp2_with (go_at_call 95; refine (HT.out _ (World.grownBy_alloc _ _ _)).mono ?_; rintro e w3 ⟨rfl, hg3, _⟩; have HG3 : Hid (Ch w w3 [SB]) := (HG.out.trans (Ch.of (World.grownBy_alloc _ _ _))).trans hg3; clear hg3)
    exact ⟨rfl, by rw [HR.out, Ck.sms_err hjn HV.out HY.out]; rfl, HG3.out, by rw [HR.out, Ck.sms_err hjn HV.out HY.out]; intro h; cases h⟩
   | ok v =>
    obtain ⟨⟩ := v
    rw [hty] at HT HY
    simp only [ckE] at HT
    go_wp2_with (go_at_call 95; refine (HT.out _ (World.grownBy_alloc _ _ _)).mono ?_; rintro e w3 ⟨rfl, hg3, hS3⟩; have HG3 : Hid (Ch w w3 [SB]) := (HG.out.trans (Ch.of (World.grownBy_alloc _ _ _))).trans hg3; obtain ⟨q3, hq3, hq4, hS3⟩ := hS3 (by first | trivial | rfl); have HS3 : Hid (q ≤ q3 ∧ q3 ≤ q + dy ∧ Sx N w3 SB c A lp q3 deep) := ⟨hq3, hq4, hS3⟩; clear hg3 hS3 hq3 hq4)
    go_roundw
    case rel => exact ⟨j + 1, q3, by go_num, by omega, Ck.sms_succ hjn HV.out HY.out, HG3.out, by have := HS3.out.1; have := HQ.out.1; omega, by rw [HN3.out]; have := HS3.out.2.1; have := HQ.out.2; omega, HS3.out.2.2⟩
    case measure => simp [intOf]; omega
  ·obtain rfl : j = l.length := by omega
   go_wp2
   go_end0
   have e1 := HV.out
   rw [List.take_length] at e1
   have e2 := HQ.out.2
   rw [List.take_length] at e2
   exact ⟨by rw [HR.out, e1]; rfl, HG.out, fun _ => ⟨q, HQ.out.1, by rw [HD.out]; exact e2, HS2.out⟩⟩
end Go.Proofs.YtpcgkggpmipiaaaGreat
namespace Go.Proofs.YtpcgkggpmipiaaaGreat
open Go.RowKit
set_option linter.unusedVariables false
set_option maxRecDepth 100000
set_option maxHeartbeats 8000000
theorem bits_partsS (a b d e p q r t : Bool) : (bits BinOp.andNot IntKind.i64 (Ck.pJ a b d e) (Ck.pJ p q r t) == 0) = ((!a || p) && (!b || q) && (!d || r) && (!e || t)) := by
 cases a <;> cases b <;> cases d <;> cases e <;> cases p <;> cases q <;> cases r <;> cases t <;> decide
theorem sfn_call {op : Int} {x : Bool × Bool × Bool × Bool × Int} (hr : Ck.srow op = some x) (args : Array Value) (W : World) : Sem.run Tryz.prog (callFunc (sfn op) args) W = .ok (.enter (sfn op) args) W := by
 by_cases hop : 1 ≤ op ∧ op ≤ 10
 case neg =>
  have hr2 : Ck.srow op = none := by unfold Ck.srow; repeat rw [if_neg (by omega)]
  rw [hr2] at hr; cases hr
 obtain rfl | rfl | rfl | rfl | rfl | rfl | rfl | rfl | rfl | rfl : op = 1 ∨ op = 2 ∨ op = 3 ∨ op = 4 ∨ op = 5 ∨ op = 6 ∨ op = 7 ∨ op = 8 ∨ op = 9 ∨ op = 10 := by omega
 all_goals
  simp only [sfn, Int.reduceEq, ↓reduceIte]
  first | rfl | simp [go_sem]
theorem Sc.set7 {N : Nat} {w : World} {SB : Nat} {c : Ck.En} {A : ScA} {loops nodes deep : Int} (h : Sc N w SB c A loops nodes deep) (x : Int) : Sc N (w.setCell ⟨SB, 7, none⟩ (.int .i64 x)) SB c A x nodes deep :=
 have g : Ch w (w.setCell ⟨SB, 7, none⟩ (.int .i64 x)) [SB] := Ch.one (grown_set _ _ _ _) (by simp)
 have hl : ∀ k, k ∈ [SB] → N ≤ k := fun k hk => by have := h.nb; simp at hk; omega
 ⟨h.k.set 7 _, h.tb.ch g hl, h.lo.ch g hl, h.re.ch g hl, h.nb⟩
theorem wpList_enter {P : Program} {ops : Array Oper} {rest : List Oper} {o : Oper} {A : Act} {w : World} {Q : Exit → Act → World → Prop} {f : FuncId} {args : Array Value} (hgd : o.guard = none) (h : (execOp A.eval o).run P w = .ok (.enter f args) w)
  (hc : Calls P f args w fun e w' => (∃ v, e = .returned v ∧ wpList P ops Q rest (A.put o.dst v) w') ∨ ∃ c, e = .panicked c ∧ Q (.panic c) A w') : wpList P ops Q (o :: rest) A w := by
 unfold wpList
 have hw : Region.wanted o (yielded ops A.tmps) = true := by unfold Region.wanted; rw [hgd]
 rw [if_pos hw]
 refine .inl ?_
 unfold Oper.wp
 rw [h, Oper.upon_enter]
 refine hc.mono ?_
 rintro e w' (⟨v, rfl, h1⟩ | ⟨c, rfl, h1⟩)
 ·exact h1
 ·exact h1
structure S5 (N : Nat) (w W : World) (SB : Nat) (c : Ck.En) (A : ScA) (lp : Nat) (nodes deep : Int) (B3 : Nat) (l : List Value) : Prop where
 s : Sx N W SB c A lp nodes deep
 x : Bk W B3 51 l
 g : Ch w W [SB]
theorem S5.grow {N : Nat} {w W W' : World} {SB : Nat} {c : Ck.En} {A : ScA} {lp : Nat} {nodes deep : Int} {B3 : Nat} {l : List Value} (h : S5 N w W SB c A lp nodes deep B3 l) (g : W.grownBy W' none) : S5 N w W' SB c A lp nodes deep B3 l := ⟨h.s.grow g, h.x.grow g, h.g.trans (Ch.of g)⟩
def CallOk : Prop := ∀ {N : Nat} {w : World} {SB : Nat} {c : Ck.En} {A : ScA} {lp : Nat} {nodes deep : Int}, Sx N w SB c A lp nodes deep → Ck.Fok c → ∀ (n : Int) (a1 : Option Addr) (m1 k1 : Nat) (a2 : Option Addr) (k2 : Nat) (a3 : Option Addr) (m3 k3 : Nat) (a4 : Option Addr) (m4 k4 : Nat) {M : Nat} {aa : Option Addr} {ac : Nat} {l dst : List Int}, NumL (fun b => b < N) w a2 k2 dst → (∀ x, x ∈ l → 0 ≤ x ∧ x < (c.n : Int)) → NumIn M w aa l.length ac (fun i => l.getD i 0) →
 CkS 196 w SB (stV 10 n a1 m1 k1 a2 dst.length k2 a3 m3 k3 a4 m4 k4) aa l.length ac (Ck.sask c lp 10 n dst l)
theorem ckStm_none {op n : Int} {args : List Pg.Ex} {dst : List Int} {xa xb : List Pg.St} (hr : Ck.srow op = none) : StX (.mk op n args dst xa xb) := by
 intro N w SB c A lp nodes deep a1 a2 a3 a4 k1 k2 k3 k4 hc hf h hl hds hsa hsb hn0 hn1 hd0 hd1 hlp
 have e1 := Pg.St.nd_eq (.mk op n args dst xa xb)
 simp only [Pg.St.op, Pg.St.n, Pg.St.args, Pg.St.dst, Pg.St.a, Pg.St.b] at hl hds hsa hsb e1 ⊢
 obtain ⟨R, hR⟩ : ∃ R, R = Ck.sm c lp (.mk op n args dst xa xb) := ⟨_, rfl⟩
 have HR : Hid (R = (do Ck.spre op n args.length dst.length xa.length xb.length; let l ← Ck.tms c args; Ck.sask c lp op n dst l; Ck.sms c (if op = 4 then lp + 1 else lp) xa; Ck.sms c (if op = 4 then lp + 1 else lp) xb)) := by show _ = _; rw [hR, Ck.sm]
 rw [← hR]
 clear hR
 generalize (Pg.St.mk op n args dst xa xb).dl.nd = nd at *
 generalize (Pg.St.mk op n args dst xa xb).dl.dp = dp at *
 have hle := hl.le
 have hmx := hl.max
 unfold maxLen at hmx
 have hSlt := h.s.k.lt
 have hNB := h.s.nb
 have g1 : w.grownBy (w.alloc (Obj.cells #[.int .i64 op, .int .i64 n, .slice a1 args.length k1, .slice a2 dst.length k2, .slice a3 xa.length k3, .slice a4 xb.length k4] 51)) none := World.grownBy_alloc _ _ _
 have hT1 : S5 N w (w.alloc (Obj.cells #[.int .i64 op, .int .i64 n, .slice a1 args.length k1, .slice a2 dst.length k2, .slice a3 xa.length k3, .slice a4 xb.length k4] 51)) SB c A lp nodes deep w.heap.size [.int .i64 op, .int .i64 n, .slice a1 args.length k1, .slice a2 dst.length k2, .slice a3 xa.length k3, .slice a4 xb.length k4] := ⟨h.grow g1, Bk.new _ _ _, Ch.of g1⟩
 have x0 := hT1.x.cell (i := 0) rfl
 obtain ⟨W2, hW2⟩ : ∃ W, W = (w.alloc (Obj.cells #[.int .i64 op, .int .i64 n, .slice a1 args.length k1, .slice a2 dst.length k2, .slice a3 xa.length k3, .slice a4 xb.length k4] 51)) := ⟨_, rfl⟩
 obtain ⟨B3, hB3⟩ : ∃ B, B = w.heap.size := ⟨_, rfl⟩
 have HT2 : Hid (S5 N w W2 SB c A lp nodes deep B3 [.int .i64 op, .int .i64 n, .slice a1 args.length k1, .slice a2 dst.length k2, .slice a3 xa.length k3, .slice a4 xb.length k4]) := by rw [hW2, hB3]; exact hT1
 have HB3 : Hid (w.heap.size = B3) := hB3.symm
 have HW2 : Hid ((w.alloc (Obj.cells #[.int .i64 op, .int .i64 n, .slice a1 args.length k1, .slice a2 dst.length k2, .slice a3 xa.length k3, .slice a4 xb.length k4] 51)) = W2) := hW2.symm
 have hB3s : SB < B3 := by omega
 have HM : Hid (∀ (b : Bool) (e : Int) W, Calls Tryz.prog 42 #[.bool b, .int .i64 e] W fun r w' => r = (bif b then .returned (.tuple #[]) else ckF e) ∧ w' = W) := ckMust_any
 have HRow : Hid (∀ W, Calls Tryz.prog 147 #[.int .i64 op] W fun r w' => r = .returned (rowA 0 0 .nilFunc) ∧ W.grownBy w' none) := fun W => by
  have h9 := ckSRow_any op W
  unfold rowS at h9
  rw [hr] at h9
  exact h9
 have HRr : Hid (Ck.srow op = none) := hr
 clear hB3 hW2 g1 h hl hc hf hds hsa hsb hr hT1
 go_enter Tryz.func95, Tryz.ntmps95
 go_wp2_with (go_at_call 147; rw [HW2.out, HB3.out]; refine (HRow.out _).mono ?_; rintro e w4 ⟨rfl, hg4⟩; have HT4 : Hid (S5 N w w4 SB c A lp nodes deep B3 [.int .i64 op, .int .i64 n, .slice a1 args.length k1, .slice a2 dst.length k2, .slice a3 xa.length k3, .slice a4 xb.length k4]) := HT2.out.grow hg4; clear hg4)
 obtain ⟨W5, hW5⟩ : ∃ W, W = (w4.alloc (Obj.cells #[.int .i64 0, .int .i64 0, .nilFunc] 168)) := ⟨_, rfl⟩
 obtain ⟨B5, hB5⟩ : ∃ B, B = w4.heap.size := ⟨_, rfl⟩
 rw [← hW5, ← hB5]
 have HT5 : Hid (S5 N w W5 SB c A lp nodes deep B3 [.int .i64 op, .int .i64 n, .slice a1 args.length k1, .slice a2 dst.length k2, .slice a3 xa.length k3, .slice a4 xb.length k4]) := by rw [hW5]; exact HT4.out.grow (World.grownBy_alloc _ _ _)
 have HK5 : Hid (Bk W5 B5 168 [.int .i64 0, .int .i64 0, .nilFunc]) := by rw [hW5, hB5]; exact Bk.new _ _ _
 have hB5s : SB < B5 := by have := HT4.out.g.size; omega
 have hB35 : B3 < B5 := by have := HT4.out.x.lt; omega
 clear hW5 hB5 HT4
 have HX : Hid (∀ W, W5.grownBy W none → W.cell? ⟨B5, 2, none⟩ = some .nilFunc) := fun W g => (HK5.out.grow g).cell (i := 2) rfl
 refine region_lg 11 (World.grownBy.refl _ _) (by kernel_rfl) (by kernel_rfl) (by kernel_rfl) (by kernel_rfl) ?_
 simp only [List.take_succ_cons, List.take_zero]
 repeat (first
  | (refine lx_end fun W0 GR => ?_)
  | (refine lx_no ?_ ?_ ?_; (· simp [Region.wanted, yielded]; done); (· kernel_rfl); simp only [Act.put, List.setIfInBounds_toArray, List.set_cons_succ, List.set_cons_zero])
  | (refine lx_val (v := ?_) ?_ ?_ ?_ ?_; rotate_left; (· kernel_rfl); (· exact ⟨by kernel_rfl, rfl⟩); (· intro W g; simp [go_sem, HX.out W g]; rfl); simp only [Act.put, List.setIfInBounds_toArray, List.set_cons_succ, List.set_cons_zero]))
 simp only [List.drop_succ_cons, List.drop_zero]
 go_wp2_with (go_at_call 42; refine (HM.out _ _ _).mono ?_; rintro e w3 ⟨rfl, hw3⟩; rw [hw3]; clear hw3 w3; simp only [cond_false])
 exact ⟨rfl, by rw [HR.out]; simp [Ck.spre, HRr.out, ckE, bind, Except.bind], (HT5.out.grow GR).g, by rw [HR.out]; simp [Ck.spre, HRr.out, bind, Except.bind]⟩
end Go.Proofs.YtpcgkggpmipiaaaGreat
namespace Go.Proofs.YtpcgkggpmipiaaaGreat
open Go.RowKit
set_option linter.unusedVariables false
set_option maxRecDepth 100000
set_option maxHeartbeats 4000000
theorem ckIndex9 {N : Nat} {w : World} {a : Option Addr} {n c : Nat} {F : Nat → Int} (h : NumIn N w a n c F) (v : Int) :
  Calls Tryz.prog 240 #[.slice a n c, .int .i64 v] w fun r w' => ∃ q : Int, r = .returned (.int .i64 q) ∧ w' = w ∧ ((q = -1 ∧ ∀ j, j < n → F j ≠ v) ∨ (0 ≤ q ∧ ∃ j, j < n ∧ F j = v)) := by
 have hle := h.le
 have hmx := h.max
 unfold maxLen at hmx
 have HL : Hid (NumIn N w a n c F) := h
 clear h
 go_enter Tryz.func240, Tryz.ntmps240
 go_wp2_with fail
 go_loopw [8] (fun ix wr => ∃ k : Nat, ix = .int .i64 k ∧ k ≤ n ∧ wr = w ∧ ∀ j, j < k → F j ≠ v) (fun ix _ => n - (intOf ix).toNat)
 case atStart => exact ⟨0, rfl, Nat.zero_le _, rfl, fun j hj => by omega⟩
 case round =>
  obtain ⟨k, rfl, hk, rfl, hne⟩ := hrel
  have HN : Hid (∀ j, j < k → F j ≠ v) := hne
  clear hne
  by_cases hkn : k < n
  ·have hkn' : (k : Int) < n := by omega
   obtain ⟨b, o, rfl, _, c1⟩ := HL.out.at hkn
   obtain ⟨x, hx⟩ : ∃ x, x = F k := ⟨_, rfl⟩
   rw [← hx] at c1
   have HX : Hid (F k = x) := hx.symm
   clear hx
   rcases Bool.eq_false_or_eq_true (v == x) with q0 | q0
   ·have HQ : Hid (v = x) := by show _ = _; simpa using q0
    go_wp2
    go_ret
    exact ⟨_, rfl, rfl, .inr ⟨by omega, k, hkn, by rw [HX.out, HQ.out]⟩⟩
   ·have HQ : Hid (¬ v = x) := by show ¬ _; simpa using q0
    go_wp2
    go_roundw
    case rel => exact ⟨k + 1, by go_num, by omega, by trivial, fun j hj => by
     by_cases e : j < k
     ·exact HN.out j e
     ·obtain rfl : j = k := by omega
      rw [HX.out]; exact fun e => HQ.out e.symm⟩
    case measure => simp [intOf]; omega
  ·obtain rfl : k = n := by omega
   go_wp2
   go_ret
   exact ⟨_, rfl, rfl, .inl ⟨rfl, HN.out⟩⟩
theorem ckContains {N : Nat} {w : World} {a : Option Addr} {n c : Nat} {F : Nat → Int} (h : NumIn N w a n c F) (v : Int) :
  Calls Tryz.prog 233 #[.slice a n c, .int .i64 v] w fun r w' => r = .returned (.bool (((List.range n).map F).contains v)) ∧ w' = w := by
 have HI : Hid (Calls Tryz.prog 240 #[.slice a n c, .int .i64 v] w fun r w' => ∃ q : Int, r = .returned (.int .i64 q) ∧ w' = w ∧ ((q = -1 ∧ ∀ j, j < n → F j ≠ v) ∨ (0 ≤ q ∧ ∃ j, j < n ∧ F j = v))) := ckIndex9 h v
 clear h
 have HT : Hid ((∃ j, j < n ∧ F j = v) → ((List.range n).map F).contains v = true) := fun ⟨j, hj, e⟩ => by
  rw [List.contains_iff_mem]
  exact List.mem_map.2 ⟨j, List.mem_range.2 hj, e⟩
 have HF : Hid ((∀ j, j < n → F j ≠ v) → ((List.range n).map F).contains v = false) := fun hh => by
  rw [← Bool.not_eq_true, List.contains_iff_mem]
  intro hm
  obtain ⟨j, hj, e⟩ := List.mem_map.1 hm
  exact hh j (List.mem_range.1 hj) e
 generalize ((List.range n).map F).contains v = z at *
 go_enter Tryz.func233, Tryz.ntmps233
 go_wp2_with (go_at_call 240; refine HI.out.mono ?_; rintro e w3 ⟨q, rfl, hw3, hq⟩; rw [hw3]; clear hw3 w3; have HQ : Hid ((q = -1 ∧ ∀ j, j < n → F j ≠ v) ∨ (0 ≤ q ∧ ∃ j, j < n ∧ F j = v)) := hq; clear hq)
 go_ret
 rcases HQ.out with ⟨rfl, h1⟩ | ⟨h1, h2⟩
 ·rw [HF.out h1]; exact ⟨rfl, rfl⟩
 ·rw [HT.out h2]; exact ⟨by simp [h1], rfl⟩
theorem Ck.locs_step {c : Ck.En} {l : List Int} {k : Nat} (hk : k < l.length) : Ck.locs c (l.take k) (l.drop k) = (Ty.nmB c.f.locals.length l[k] && !(l.take k).contains l[k] && Ck.locs c (l.take (k + 1)) (l.drop (k + 1))) := by
 rw [List.drop_eq_getElem_cons hk, Ck.locs, List.take_succ_eq_append_getElem hk]
theorem ckAreLocals {N : Nat} {w : World} {SB : Nat} {c : Ck.En} {A : ScA} {loops nodes deep : Int} (h : Sc N w SB c A loops nodes deep) {M : Nat} {a : Option Addr} {ac : Nat} {l : List Int} (hl : NumIn M w a l.length ac (fun i => l.getD i 0)) :
  Calls Tryz.prog 218 #[.pointer (some ⟨SB, 0, none⟩), .slice a l.length ac] w fun r w' => r = .returned (.bool (Ck.locs c [] l)) ∧ w.grownBy w' none := by
 have hle := hl.le
 have hmx := hl.max
 unfold maxLen at hmx
 have k4 := h.k.cell (i := 4) rfl
 have hlm := h.lo.max
 have hll := h.lo.le
 unfold maxLen at hlm
 have HL : Hid (NumIn M w a l.length ac (fun i => l.getD i 0)) := hl
 have HN : Hid (∀ x W, Calls Tryz.prog 43 #[.int .i64 (c.f.locals.length : Int), .int .i64 x] W fun r w' => r = .returned (.bool (Ty.nmB c.f.locals.length x)) ∧ w' = W) := fun x W => ckNum_any _ _ W
 obtain ⟨R, hR⟩ : ∃ R, R = Ck.locs c [] l := ⟨_, rfl⟩
 have HR : Hid (Ck.locs c (l.take 0) (l.drop 0) = R) := by show _ = _; rw [hR]; rfl
 have HS : Hid (∀ k, (hk : k < l.length) → Ck.locs c (l.take k) (l.drop k) = (Ty.nmB c.f.locals.length l[k] && !(l.take k).contains l[k] && Ck.locs c (l.take (k + 1)) (l.drop (k + 1)))) := fun k hk => Ck.locs_step hk
 have HE : Hid (Ck.locs c (l.take l.length) (l.drop l.length) = true) := by show _ = _; rw [List.drop_length]; rfl
 rw [← hR]
 clear hR h hl
 go_enter Tryz.func218, Tryz.ntmps218
 go_wp2_with fail
 go_loopw [9] (fun ix wr => ∃ k : Nat, ix = .int .i64 k ∧ k ≤ l.length ∧ wr = w ∧ Ck.locs c (l.take k) (l.drop k) = R) (fun ix _ => l.length - (intOf ix).toNat)
 case atStart => exact ⟨0, rfl, Nat.zero_le _, rfl, HR.out⟩
 case round =>
  obtain ⟨k, rfl, hk, rfl, hrr⟩ := hrel
  have HK : Hid (Ck.locs c (l.take k) (l.drop k) = R) := hrr
  clear hrr
  by_cases hkn : k < l.length
  ·have hkn' : (k : Int) < l.length := by omega
   obtain ⟨b, o, rfl, _, c1⟩ := HL.out.at hkn
   have hka : (k : Int) ≤ ac := by omega
   obtain ⟨x, hx⟩ : ∃ x, x = l.getD k 0 := ⟨_, rfl⟩
   have hxk : l[k] = x := by rw [hx, List.getD_eq_getElem?_getD, List.getElem?_eq_getElem hkn]; rfl
   rw [← hx] at c1
   have HP := HS.out k hkn
   rw [hxk, HK.out] at HP
   have HP2 : Hid (R = (Ty.nmB c.f.locals.length x && !(l.take k).contains x && Ck.locs c (l.take (k + 1)) (l.drop (k + 1)))) := HP
   have HC : Hid (Calls Tryz.prog 233 #[.slice (some ⟨b, o, none⟩) k ac, .int .i64 x] wr fun r w' => r = .returned (.bool ((l.take k).contains x)) ∧ w' = wr) := by
    have h9 := ckContains (N := M) (w := wr) (a := some ⟨b, o, none⟩) (n := k) (c := ac) (F := fun i => l.getD i 0) ⟨by omega, HL.out.max, by
     rcases HL.out.lie with h0 | ⟨b', o', e1, e2, e3⟩
     ·omega
     ·exact .inr ⟨b', o', e1, e2, fun i hi => e3 i (by omega)⟩⟩ x
    rw [show (List.range k).map (fun i => l.getD i 0) = l.take k from by
     refine List.ext_getElem (by simp; omega) fun i h1 h2 => ?_
     simp at h1
     simp [List.getD_eq_getElem?_getD, show i < l.length by omega]] at h9
    exact h9
   clear HP hx hxk
   obtain ⟨z1, hz1⟩ : ∃ z : Bool, z = Ty.nmB c.f.locals.length x := ⟨_, rfl⟩
   obtain ⟨z2, hz2⟩ : ∃ z : Bool, z = (l.take k).contains x := ⟨_, rfl⟩
   have HN2 : Hid (∀ W, Calls Tryz.prog 43 #[.int .i64 (c.f.locals.length : Int), .int .i64 x] W fun r w' => r = .returned (.bool z1) ∧ w' = W) := by rw [hz1]; exact HN.out x
   rw [← hz2] at HC
   rw [← hz1, ← hz2] at HP2
   clear hz1 hz2 HN
   cases z1
   case false =>
    go_wp2_with (go_at_call 43; refine (HN2.out _).mono ?_; rintro e w3 ⟨rfl, hw3⟩; rw [hw3]; clear hw3 w3)
    go_ret
    exact ⟨by rw [HP2.out]; rfl, World.grownBy.refl _ _⟩
   case true =>
    cases z2
    case true =>
     go_wp2_with (first | (go_at_call 43; refine (HN2.out _).mono ?_; rintro e w3 ⟨rfl, hw3⟩; rw [hw3]; clear hw3 w3) | (go_at_call 233; refine HC.out.mono ?_; rintro e w4 ⟨rfl, hw4⟩; rw [hw4]; clear hw4 w4))
     go_ret
     exact ⟨by rw [HP2.out]; rfl, World.grownBy.refl _ _⟩
    case false =>
     go_wp2_with (first | (go_at_call 43; refine (HN2.out _).mono ?_; rintro e w3 ⟨rfl, hw3⟩; rw [hw3]; clear hw3 w3) | (go_at_call 233; refine HC.out.mono ?_; rintro e w4 ⟨rfl, hw4⟩; rw [hw4]; clear hw4 w4))
     go_roundw
     case rel => exact ⟨k + 1, by go_num, by omega, by trivial, by rw [HP2.out]; simp⟩
     case measure => simp [intOf]; omega
  ·obtain rfl : k = l.length := by omega
   go_wp2
   go_ret
   exact ⟨by rw [← HK.out, HE.out]; rfl, World.grownBy.refl _ _⟩
end Go.Proofs.YtpcgkggpmipiaaaGreat
