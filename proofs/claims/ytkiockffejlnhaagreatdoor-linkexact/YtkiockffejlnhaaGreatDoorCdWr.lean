/- cisc.write: its contract. -/
import Derived.Test.YtkiockffejlnhaaGreatDoorG8
import Derived.Deep.RegionLaw
namespace Go.Proofs.YtkiockffejlnhaaGreatDoor
set_option maxRecDepth 100000
set_option maxHeartbeats 32000000
open Go.RowKit
set_option linter.unusedVariables false
theorem step_fn {P : Program} {ops : Array Oper} {o : Oper} {a : Act} {w : World} {K : Act → World → Prop} {Q : Exit → Act → World → Prop} {E : Prop} {v : Value} (f : FuncId) (vals : Array Value) {xs : Array Operand} {ts : Array TypeId}
  (hg : o.guard = none) (hop : o.op = Op.call { callee := Callee.value (Operand.func f), args := xs, argTypes := ts }) (hrun : (execOp a.eval o).run P w = .ok (.enter f vals) w) (hC : Calls P f vals w fun e w' => e = .returned v ∧ w' = w) (hK : K (a.put o.dst v) w) :
  if Region.wanted o (yielded ops a.tmps) = true then Oper.wp P o a w K Q else E := by
 have hw : Region.wanted o (yielded ops a.tmps) = true := by simp [Region.wanted, hg]
 rw [if_pos hw]
 unfold Oper.wp
 rw [hrun, Oper.upon_enter]
 refine hC.mono ?_
 rintro e w' ⟨rfl, rfl⟩
 exact hK
theorem step_app1 {ops : Array Oper} {o : Oper} {a : Act} {Q : Exit → Act → World → Prop} {K : Act → World → Prop} {E : Prop} {W : World} (hgd : o.guard = none) (s x : Operand)
  (ho : o.op = .call { callee := .builtin .append, args := #[s, x], argTypes := #[24, 24] }) (base : Nat) (v : Value) (l : List Int) (X : Int) (hs : a.eval s = v) (hown : OwnL W base v l)
  (hx : a.eval x = .slice (some ⟨W.heap.size, 0, none⟩) 1 1) (hl : l.length ≤ 1000) (hb : base ≤ W.heap.size)
  (h : ∀ v' w', OwnL w' base v' (l ++ [X]) → W.grownBy w' v.ownBlock → K (a.put o.dst v') w') :
  if Region.wanted o (yielded ops a.tmps) = true then Oper.wp Tryz.prog o a (W.alloc (Obj.cells #[.int .u8 X] 5)) K Q else E := by
 have hw : Region.wanted o (yielded ops a.tmps) = true := by simp [Region.wanted, hgd]
 rw [if_pos hw]
 obtain ⟨i, hi, hz0, hz1, hz2⟩ := info_parts info_u8
 refine wp_append_own _ s x 24 ho base 5 i (.int .u8 0) 1 1 Tryz.underlying24 hi hz0 hz1 hz2 rfl (by decide) v l.length (l.map (Value.int .u8)) hs (World.ownsRow.alloc hown _) ⟨W.heap.size, 0, none⟩ 1 1 [.int .u8 X] hx rfl
  (by intro j u hj; match j, hj with | 0, hj => simp at hj; subst hj; simp [Addr.add]) (by simp; rfl) (by unfold maxLen; omega) (by omega) (by simp; omega) ?_
 intro v' w2 ho2 hg2 _
 exact h v' w2 (OwnL.one ho2) (gtr (grown_noneR _ gal) hg2)
theorem step_app1d {ops : Array Oper} {o : Oper} {a : Act} {Q : Exit → Act → World → Prop} {K : Act → World → Prop} {E : Prop} {W : World} (hgd : o.guard = none) (s x : Operand)
  (ho : o.op = .call { callee := .builtin .append, args := #[s, x], argTypes := #[24, 24] }) (base : Nat) (v : Value) (l : List Int) (X : Int) (hs : a.eval s = v) (hown : OwnL W base v l)
  (hx : a.eval x = .slice (some ⟨W.heap.size, 0, none⟩) 1 1) (hl : l.length ≤ 1000) (hb : base ≤ W.heap.size)
  (h : ∀ v' w', OwnL w' base v' (l ++ [X]) → W.drew.grownBy w' v.ownBlock → K (a.put o.dst v') w') :
  if Region.wanted o (yielded ops a.tmps) = true then Oper.wp Tryz.prog o a (W.alloc (Obj.cells #[.int .u8 X] 5)).drew K Q else E :=
 step_app1 (W := W.drew) hgd s x ho base v l X hs hown hx hl hb h
namespace Cc
def letW (L : Int) (v : InV) (l : Int) : List Int := if l = 99 then [(16 * v.c + L) % 256] else letB v l
def wr (L : Int) (v : InV) : List Int := v.op % 256 :: (row v.op).flatMap (letW L v)
def prtW (L : Int) (v : InV) (q : Int) : List Int := (lett q).flatMap (letW L v)
def wrP (L : Int) (v : InV) (s : List Int) : List Int := s.flatMap (prtW L v)
theorem wr_prt (L : Int) (v : InV) : wr L v = v.op % 256 :: wrP L v (prt v.op) := by
 have e : wrP L v (prt v.op) = (row v.op).flatMap (letW L v) := by
  rcases ops v.op with h | h | h | h | h | h | h | h | h | h | h | h | h | h | h | h | h | h | h | h | h | h | h | h | h | h
  case inr.inr.inr.inr.inr.inr.inr.inr.inr.inr.inr.inr.inr.inr.inr.inr.inr.inr.inr.inr.inr.inr.inr.inr.inr =>
   rw [(row_none h).1, (row_none h).2]; rfl
  all_goals
   rw [h]
   simp [wrP, prtW, prt, row, lett, letW, letB]
 unfold wr
 rw [e]
theorem wrP_take (L : Int) (v : InV) {q0 q1 q2 q3 : Int} {k : Nat} (hk : k < 4) : wrP L v ([q0, q1, q2, q3].take (k + 1)) = wrP L v ([q0, q1, q2, q3].take k) ++ prtW L v ([q0, q1, q2, q3].getD k 0) := by
 have : k = 0 ∨ k = 1 ∨ k = 2 ∨ k = 3 := by omega
 rcases this with rfl | rfl | rfl | rfl <;> simp [wrP]
theorem letW_len (L : Int) (v : InV) (l : Int) : (letW L v l).length ≤ 8 := by
 have hc := cnt_c (z := size v.imm)
 unfold letW letB
 repeat' split
 all_goals first | (rw [low_len]; omega) | (simp only [List.length_cons, List.length_nil]; omega)
theorem prtW_len (L : Int) (v : InV) (q : Int) : (prtW L v q).length ≤ 8 := by
 have h : ∀ l, ([l].flatMap (letW L v)).length ≤ 8 := fun l => by
  rw [List.flatMap_cons, List.flatMap_nil, List.append_nil]; exact letW_len L v l
 unfold prtW lett
 repeat' split
 all_goals first | exact h _ | exact Nat.zero_le _
theorem wrP_len (L : Int) (v : InV) : ∀ s : List Int, (wrP L v s).length ≤ 8 * s.length
 | [] => Nat.le_refl _
 | q :: s => by
  have h1 := prtW_len L v q
  have h2 := wrP_len L v s
  unfold wrP at h2 ⊢
  rw [List.flatMap_cons, List.length_append, List.length_cons]
  omega
end Cc
theorem cwrite_any (v : InV) (w : World) (hT : TabAt w) (h1 : -9223372036854775808 ≤ v.imm ∧ v.imm ≤ 9223372036854775807) (h2 : -9223372036854775808 ≤ v.scale ∧ v.scale ≤ 9223372036854775807) :
  Calls Tryz.prog 92 #[inst v] w fun e w' => ∃ x, e = .returned x ∧ OwnL w' w.heap.size x (Cc.wr (Cc.lgT v.scale) v) ∧ w.grownBy w' none := by
 unfold inst
 have hp : ∃ q0 q1 q2 q3, Cc.prt v.op = [q0, q1, q2, q3] := by
  rcases Cc.ops v.op with h | h | h | h | h | h | h | h | h | h | h | h | h | h | h | h | h | h | h | h | h | h | h | h | h | h
  case inr.inr.inr.inr.inr.inr.inr.inr.inr.inr.inr.inr.inr.inr.inr.inr.inr.inr.inr.inr.inr.inr.inr.inr.inr =>
   exact ⟨0, 0, 0, 0, (Cc.row_none h).2⟩
  all_goals (rw [h]; exact ⟨_, _, _, _, rfl⟩)
 obtain ⟨q0, q1, q2, q3, hq⟩ := hp
 have HR : Hid (∀ W, Calls Tryz.prog 116 #[.int .i64 v.op] W fun e w' => e = .returned (.tuple #[.agg #[.int .i64 q0, .int .i64 q1, .int .i64 q2, .int .i64 q3], .bool (!(Cc.row v.op).isEmpty)]) ∧ W.grownBy w' none) := fun W => by
  have := crow_any v.op W
  rw [hq] at this
  exact this
 have HI : Hid (∀ (k : Nat) (W : World), k < 4 → (Instr.index 131 (.agg #[.int .i64 q0, .int .i64 q1, .int .i64 q2, .int .i64 q3]) (.int .i64 k)).run Tryz.prog W = .ok (.int .i64 ([q0, q1, q2, q3].getD k 0)) W) := fun k W hk => idx_four W hk
 generalize (!(Cc.row v.op).isEmpty) = bb at *
 go_enter Tryz.func92, Tryz.ntmps92
 go_wp2_with (first
  | (go_at_call 124; refine (csize_any _ _ h1.1 h1.2).mono ?_; rintro e w1 ⟨rfl, rfl⟩)
  | (go_at_call 116; refine (HR.out _).mono ?_; rintro e w2 ⟨rfl, g2⟩))
 have hW1 : ∃ W1, W1 = w.alloc (Obj.cells #[.int .i64 v.op, .int .i64 v.a, .int .i64 v.b, .int .i64 v.c, .int .i64 v.k, .int .i64 v.sub, .int .i64 v.scale, .int .i64 v.imm, .int .i64 v.label] 50) := ⟨_, rfl⟩
 obtain ⟨W1, hW1⟩ := hW1
 have s1 : W1.heap.size = w.heap.size + 1 := by rw [hW1, size_alloc]
 rw [← hW1] at g2
 have IA : InstAt W1 w.heap.size v := by rw [hW1]; exact InstAt.new w v
 have TA : TabAt W1 := by rw [hW1]; exact hT.kept (World.grownBy_alloc _ _ none) (by simp)
 have O0 : OwnL (W1.alloc (Obj.cells #[.int .u8 (v.op % 256)] 5)) W1.heap.size (.slice (some ⟨W1.heap.size, 0, none⟩) 1 1) [v.op % 256] := OwnL.lit W1 W1.heap.size [v.op % 256] (Nat.le_refl _) (by show 1 ≤ maxLen; unfold maxLen; omega)
 have O1 := (O0.kept g2 (.inr (by simp [Value.ownBlock]))).kept (World.grownBy_alloc w2 (Obj.cells #[.int .i64 q0, .int .i64 q1, .int .i64 q2, .int .i64 q3] 131) none) (.inr (by simp [Value.ownBlock]))
 have B1 : Below W1.heap.size W1 (w2.alloc (Obj.cells #[.int .i64 q0, .int .i64 q1, .int .i64 q2, .int .i64 q3] 131)) :=
  (((Below.refl W1.heap.size W1).alloc (Nat.le_refl _) _).grown g2 (by simp) (by simp)).alloc (by have := g2.size; simp at this; omega) _
 have GW : w.grownBy W1 none := by rw [hW1]; exact gal
 rw [s1] at O1
 generalize w2.alloc (Obj.cells #[.int .i64 q0, .int .i64 q1, .int .i64 q2, .int .i64 q3] 131) = W3 at *
 generalize Value.agg #[Value.int IntKind.i64 q0, Value.int IntKind.i64 q1, Value.int IntKind.i64 q2, Value.int IntKind.i64 q3] = A at *
 rw [← s1] at O1
 have HW : Hid (Cc.wr (Cc.lgT v.scale) v = v.op % 256 :: Cc.wrP (Cc.lgT v.scale) v [q0, q1, q2, q3]) := by rw [Cc.wr_prt, hq]; exact rfl
 clear HR g2 O0 hq hT
 go_loopw [3, 23] (fun u s wr => ∃ k : Nat, k ≤ 4 ∧ s = .int .i64 k ∧ OwnL wr W1.heap.size u (v.op % 256 :: Cc.wrP (Cc.lgT v.scale) v ([q0, q1, q2, q3].take k)) ∧ Below W1.heap.size W1 wr) (fun _ s _ => 4 - (intOf s).toNat)
 case atStart => exact ⟨0, by decide, rfl, by rw [s1] at *; exact O1, B1⟩
 case round =>
  clear O1 B1
  obtain ⟨k, hk, rfl, hv0, hbel0⟩ := hrel
  have hlen : (v.op % 256 :: Cc.wrP (Cc.lgT v.scale) v ([q0, q1, q2, q3].take k)).length ≤ 100 := by
   have := Cc.wrP_len (Cc.lgT v.scale) v ([q0, q1, q2, q3].take k)
   have h4 : ([q0, q1, q2, q3].take k).length ≤ 4 := by rw [List.length_take]; exact Nat.le_trans (Nat.min_le_right _ _) (by simp)
   rw [List.length_cons]; omega
  have hlen9 : (v.op % 256 :: Cc.wrP (Cc.lgT v.scale) v ([q0, q1, q2, q3].take k)).length ≤ 900 := by omega
  have hlen : (v.op % 256 :: Cc.wrP (Cc.lgT v.scale) v ([q0, q1, q2, q3].take k)).length ≤ 1000 := by omega
  by_cases hlt : k < 4
  ·have hlt' : (k : Int) < 4 := by omega
   have hi := fun W => HI.out k W hlt
   have HS : Hid (∀ X, X = Cc.prtW (Cc.lgT v.scale) v ([q0, q1, q2, q3].getD k 0) → v.op % 256 :: Cc.wrP (Cc.lgT v.scale) v ([q0, q1, q2, q3].take (k + 1)) = (v.op % 256 :: Cc.wrP (Cc.lgT v.scale) v ([q0, q1, q2, q3].take k)) ++ X) := fun X hX => by
    rw [Cc.wrP_take _ _ hlt, hX]; rfl
   generalize [q0, q1, q2, q3].getD k 0 = q at *
   generalize v.op % 256 :: Cc.wrP (Cc.lgT v.scale) v ([q0, q1, q2, q3].take k) = S at *
   obtain ⟨ao, cp, rfl, _⟩ := hv0.toB.shape
   have hv : Hid (OwnL wr W1.heap.size (.slice ao S.length cp) S) := hv0
   have hbel : Hid (Below W1.heap.size W1 wr) := hbel0
   have hsz : W1.heap.size ≤ wr.heap.size := hbel0.size
   have hT2 : Hid (TabAt wr) := TA.below hbel0 rfl
   obtain ⟨x0, x1, x2, x3, x4, x5, x6, x7, x8, xz⟩ := IA.below hbel0 (by omega)
   clear hv0 hbel0 xz HI
   have hc : q = 1 ∨ q = 2 ∨ q = 3 ∨ q = 4 ∨ q = 5 ∨ q = 6 ∨ q = 7 ∨ q = 8 ∨ q = 9 ∨ ((q == 1) = false ∧ (q == 2) = false ∧ (q == 3) = false ∧ (q == 4) = false ∧ (q == 5) = false ∧ (q == 6) = false ∧ (q == 7) = false ∧ (q == 8) = false ∧ (q == 9) = false) := by
    simp only [beq_eq_false_iff_ne, ne_eq]; omega
   rcases hc with rfl | rfl | rfl | rfl | rfl | rfl | rfl | rfl | rfl | hc
   ·go_wp2_with (first
      | (go_at_call 125; refine (cpair_any _ _ _).mono ?_; rintro e w3 ⟨rfl, rfl⟩)
      | (at_builtin; refine wp_app1 rfl _ _ rfl W1.heap.size (.slice ao S.length cp) S _ rfl hv.out rfl hlen hsz ?_; intro v' w4 ho4 hg4))
    exact ⟨⟨k + 1, by omega, by go_num, ho4.cast (HS.out _ rfl), hbel.out.grown hg4 hsz hv.out.base⟩, by simp [intOf]; omega⟩
   ·go_wp2_with (first
      | (go_at_call 125; refine (cpair_any _ _ _).mono ?_; rintro e w3 ⟨rfl, rfl⟩)
      | (at_builtin; refine wp_app1 rfl _ _ rfl W1.heap.size (.slice ao S.length cp) S _ rfl hv.out rfl hlen hsz ?_; intro v' w4 ho4 hg4))
    exact ⟨⟨k + 1, by omega, by go_num, ho4.cast (HS.out _ rfl), hbel.out.grown hg4 hsz hv.out.base⟩, by simp [intOf]; omega⟩
   ·go_wp2_with fail
    go_region_law (first
     | (refine step_fn 126 #[.int .i64 v.scale] rfl rfl (by kernel_rfl) (clog_fn v.scale _ (by exact hT2.out) h2.1 h2.2) ?_)
     | (refine step_fn 125 #[.int .i64 v.c, .int .i64 (Cc.lgT v.scale)] rfl rfl (by kernel_rfl) (cpair_any v.c (Cc.lgT v.scale) _) ?_)
     | (refine step_app1d rfl _ _ rfl W1.heap.size (.slice ao S.length cp) S ((16 * v.c + Cc.lgT v.scale) % 256) rfl (by exact hv.out) rfl hlen hsz ?_; intro v' w4 ho4 hg4))
    all_goals
     go_wp2
     exact ⟨⟨k + 1, by omega, by go_num, ho4.cast (HS.out _ rfl), hbel.out.drew.grown hg4 hsz hv.out.base⟩, by simp [intOf]; omega⟩
   ·go_wp2_with (first
      | (at_builtin; refine wp_app1 rfl _ _ rfl W1.heap.size (.slice ao S.length cp) S _ rfl hv.out rfl hlen hsz ?_; intro v' w4 ho4 hg4))
    exact ⟨⟨k + 1, by omega, by go_num, ho4.cast (HS.out _ rfl), hbel.out.grown hg4 hsz hv.out.base⟩, by simp [intOf]; omega⟩
   ·go_wp2_with (first
      | (at_builtin; refine wp_app1 rfl _ _ rfl W1.heap.size (.slice ao S.length cp) S _ rfl hv.out rfl hlen hsz ?_; intro v' w4 ho4 hg4))
    exact ⟨⟨k + 1, by omega, by go_num, ho4.cast (HS.out _ rfl), hbel.out.grown hg4 hsz hv.out.base⟩, by simp [intOf]; omega⟩
   ·go_wp2_with (first
      | (at_builtin; refine wp_app1 rfl _ _ rfl W1.heap.size (.slice ao S.length cp) S _ rfl hv.out rfl hlen hsz ?_; intro v' w4 ho4 hg4))
    exact ⟨⟨k + 1, by omega, by go_num, ho4.cast (HS.out _ rfl), hbel.out.grown hg4 hsz hv.out.base⟩, by simp [intOf]; omega⟩
   ·go_wp2_with (first
      | (go_at_call 125; refine (cpair_any _ _ _).mono ?_; rintro e w3 ⟨rfl, rfl⟩)
      | (at_builtin; refine wp_app1 rfl _ _ rfl W1.heap.size (.slice ao S.length cp) S _ rfl hv.out rfl hlen hsz ?_; intro v' w4 ho4 hg4))
    exact ⟨⟨k + 1, by omega, by go_num, ho4.cast (HS.out _ (by show [_] = [_]; congr 1; simp only [wrap64]; omega)), hbel.out.grown hg4 hsz hv.out.base⟩, by simp [intOf]; omega⟩
   ·go_wp2_with fail
    refine tail_quiet 5 (by kernel_rfl) (by kernel_rfl) ?_
    have hv3 : Hid (OwnL wr.drew W1.heap.size (.slice ao S.length cp) S) := hv.out
    have hb3 : Hid (Below W1.heap.size W1 wr.drew) := hbel.out.drew
    have hz3 : W1.heap.size ≤ wr.drew.heap.size := hsz
    have y7 : wr.drew.cell? ⟨w.heap.size, 7, none⟩ = some (.int .i64 v.imm) := x7
    clear x0 x1 x2 x3 x4 x5 x6 x7 x8 hT2 hv hbel hsz
    generalize wr.drew = W8 at *
    simp only [List.take_succ_cons, List.take_zero, List.drop_succ_cons, List.drop_zero]
    repeat (go_big_quiet_step (exact cbytes_any _ _ _))
    refine wpQuiet_nil ?_
    go_wp2_with (first
     | (go_at_call 127; refine (anum_any (c := Cc.cnt (Cc.size v.imm)) (by have := cnt_c (z := Cc.size v.imm); omega) v.imm hv3.out (by omega) hz3).mono ?_; rintro e w4 ⟨v', rfl, ho4, hb4⟩))
    exact ⟨⟨k + 1, by omega, by go_num, ho4.cast (HS.out _ (by show _ = _ ++ []; rw [List.append_nil]; rfl)), hb3.out.trans hb4⟩, by simp [intOf]; omega⟩
   ·go_wp2_with (first
      | (go_at_call 127; refine (anum_any (c := 4) (by decide) v.imm hv.out (by omega) hsz).mono ?_; rintro e w4 ⟨v', rfl, ho4, hb4⟩))
    exact ⟨⟨k + 1, by omega, by go_num, ho4.cast (HS.out _ (by show _ = _ ++ []; rw [List.append_nil]; rfl)), hbel.out.trans hb4⟩, by simp [intOf]; omega⟩
   ·have HL0 : Cc.prtW (Cc.lgT v.scale) v q = [] := by
     simp only [beq_eq_false_iff_ne, ne_eq] at hc
     unfold Cc.prtW Cc.lett
     simp [hc]
    have HL : Hid (Cc.prtW (Cc.lgT v.scale) v q = []) := HL0
    clear HL0
    obtain ⟨a1, a2, a3, a4, a5, a6, a7, a8, a9⟩ := hc
    go_wp2
    exact ⟨⟨k + 1, by omega, by go_num, hv.out.cast (by rw [HS.out [] HL.out.symm, List.append_nil]), hbel.out⟩, by simp [intOf]; omega⟩
  ·obtain rfl : k = 4 := by omega
   go_wp2
   go_ret
   have GB := below_grown hbel0
   exact ⟨_, rfl, by rw [HW.out]; exact hv0.low (by omega), gtr GW GB⟩
end Go.Proofs.YtkiockffejlnhaaGreatDoor
