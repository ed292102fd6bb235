/- cisc's reader: an instruction. -/
import Derived.Test.YtkiockffejlnhaaGreatDoorCdRow
import Derived.Test.YtkiockffejlnhaaGreatDoorG7
namespace Go.Proofs.YtkiockffejlnhaaGreatDoor
set_option maxRecDepth 100000
set_option maxHeartbeats 32000000
open Go.RowKit
set_option linter.unusedVariables false
namespace Cc
def lett (q : Int) : List Int := if q = 1 then [97] else if q = 2 then [110] else if q = 3 then [99] else if q = 4 then [75] else if q = 5 then [83] else if q = 6 then [106] else if q = 7 then [74] else if q = 8 then [105] else if q = 9 then [52] else []
def lets (l : List Int) : List Int := l.flatMap lett
theorem lets_prt {o : Int} (h : (row o).isEmpty = false) : lets (prt o) = rrow o := by
 rcases codeOf h with rfl | rfl | rfl | rfl | rfl | rfl | rfl | rfl | rfl | rfl | rfl | rfl | rfl | rfl | rfl | rfl | rfl | rfl | rfl | rfl | rfl | rfl | rfl | rfl | rfl
 all_goals decide
theorem lets_cons (q : Int) (l : List Int) : lets (q :: l) = lett q ++ lets l := rfl
theorem crd_short {N : Nat} {g : Nat → Int} {l : Int} {s : List Int} {v : InV} {z : Int} {p : Nat} (h : N < p + lcnt l z) : (crdL N g (l :: s) v z p).2 = 0 := by
 rw [crdL, if_pos h]
theorem crd_bad {N : Nat} {g : Nat → Int} {l : Int} {s : List Int} {v : InV} {z : Int} {p : Nat} (h : p + lcnt l z ≤ N) (h2 : 2 < lsz l z (g p) ∨ (lsz l z (g p) = 2 ∧ v.op ≠ 1)) : (crdL N g (l :: s) v z p).2 = -1 := by
 rw [crdL, if_neg (by omega), if_pos h2]
theorem crd_least {N : Nat} {g : Nat → Int} {s : List Int} {v : InV} {z : Int} {p : Nat} (h : p + cnt z ≤ N) (h2 : ¬ (2 < z ∨ (z = 2 ∧ v.op ≠ 1))) (h3 : size (num g p (cnt z)) ≠ z) : (crdL N g (105 :: s) v z p).2 = -1 := by
 have e : lcnt 105 z = cnt z := rfl
 have e2 : lsz 105 z (g p) = z := rfl
 rw [crdL, e, e2, if_neg (by omega), if_neg h2, if_pos ⟨rfl, h3⟩]
end Cc
theorem no105 {l : Int} {P : Prop} (h : l ≠ 105) : ¬ (l = 105 ∧ P) := fun e => h e.1
def InstEnd (w w' : World) (B : Nat) (F : InV × Int) (e : Ending) : Prop :=
 w.grownBy w' (some B) ∧ ((0 < F.2 ∧ e = .returned (.agg #[.int .i64 F.1.op, .int .i64 F.1.a, .int .i64 F.1.b, .int .i64 F.1.c, .int .i64 F.1.k, .int .i64 F.1.sub, .int .i64 F.1.scale, .int .i64 F.1.imm, .int .i64 F.1.label]) ∧ w'.cell? ⟨B, 1, none⟩ = some (.int .i64 F.2)) ∨ (F.2 = 0 ∧ e = panics 41) ∨ (F.2 < 0 ∧ e = panics 40))
theorem grown_newR {w w1 w2 : World} {b : Nat} {row : Option Nat} (hg1 : w.grownBy w1 row) (hg2 : w1.grownBy w2 (some b)) (hb : w.heap.size ≤ b) : w.grownBy w2 row := by
 refine ⟨hg2.os.trans hg1.os, hg2.tape.trans hg1.tape, hg2.output.trans hg1.output, Nat.le_trans hg1.size hg2.size, fun k hk hr => ?_⟩
 have hne : some k ≠ some b := by intro e; injection e with e; omega
 exact (hg2.block k (Nat.lt_of_lt_of_le hk hg1.size) hne).trans (hg1.block k hk hr)
structure St (w wr : World) (I B b off n cap : Nat) (g : Nat → Int) (v : InV) (p : Nat) : Prop where
 rd : RdAt wr B b off n cap g p
 ia : InstAt wr I v
 gr : w.grownBy wr (some B)
 rs : InstAt wr w.heap.size Cc.zero
 hI : w.heap.size < I
 hB : B < w.heap.size
 hb : b < w.heap.size
theorem St.read {w wr w' : World} {I B b off n cap p p' : Nat} {g : Nat → Int} {v : InV} (h : St w wr I B b off n cap g v p) (r : RdAt w' B b off n cap g p') (hg : wr.grownBy w' (some B)) : St w w' I B b off n cap g v p' :=
 ⟨r, h.ia.kept hg (by have := h.hI; have := h.hB; simp; omega), gtr h.gr hg, h.rs.kept hg (by have := h.hB; simp; omega), h.hI, h.hB, h.hb⟩
theorem St.put {w wr : World} {I B b off n cap p i : Nat} {g : Nat → Int} {v v' : InV} {x : Value} (h : St w wr I B b off n cap g v p) (hi : InstAt (wr.setCell ⟨I, i, none⟩ x) I v') : St w (wr.setCell ⟨I, i, none⟩ x) I B b off n cap g v' p :=
 ⟨h.rd.kept (grown_setCell _ _ _ _) (by have := h.hI; have := h.hB; simp; omega) (by have := h.hI; have := h.hb; simp; omega), hi, grown_newR h.gr (grown_setCell _ _ _ _) (Nat.le_of_lt h.hI), h.rs.kept (grown_setCell _ _ _ _) (by have := h.hI; simp; omega), h.hI, h.hB, h.hb⟩
structure Rnd (w wr : World) (I B b off n cap : Nat) (g : Nat → Int) (F : InV × Int) (s : List Int) (v : InV) (z : Int) (p : Nat) : Prop where
 st : St w wr I B b off n cap g v p
 hz : ¬ (2 < z ∨ (z = 2 ∧ v.op ≠ 1))
 fF : F = Cc.crdL n g (Cc.lets s) v z p
 hp : 0 < p
theorem Rnd.next {w wr w' : World} {I B b off n cap p : Nat} {g : Nat → Int} {F : InV × Int} {q l : Int} {s : List Int} {v : InV} {z : Int} (R : Rnd w wr I B b off n cap g F (q :: s) v z p) (hq : Cc.lett q = [l]) (hN : p + Cc.lcnt l z ≤ n)
  (hz : ¬ (2 < Cc.lsz l z (g p) ∨ (Cc.lsz l z (g p) = 2 ∧ v.op ≠ 1))) (hs : ¬ (l = 105 ∧ Cc.size (Cc.num g p (Cc.lcnt l z)) ≠ z)) (S : St w w' I B b off n cap g (Cc.lsetC l v (g p) (Cc.num g p (Cc.lcnt l z))) (p + Cc.lcnt l z)) :
  Rnd w w' I B b off n cap g F s (Cc.lsetC l v (g p) (Cc.num g p (Cc.lcnt l z))) (Cc.lsz l z (g p)) (p + Cc.lcnt l z) := by
 refine ⟨S, ?_, ?_, by have := R.hp; omega⟩
 ·have : (Cc.lsetC l v (g p) (Cc.num g p (Cc.lcnt l z))).op = v.op := by
   unfold Cc.lsetC
   split
   ·rfl
   ·exact Cc.lset_op _ _ _ _
  rw [this]; exact hz
 ·rw [R.fF, Cc.lets_cons, hq]
  exact Cc.crd_step hN hz hs
theorem Rnd.skip {w wr w' : World} {I B b off n cap p : Nat} {g : Nat → Int} {F : InV × Int} {q : Int} {s : List Int} {v : InV} {z : Int} (R : Rnd w wr I B b off n cap g F (q :: s) v z p) (hq : Cc.lett q = []) : Rnd w wr I B b off n cap g F s v z p :=
 ⟨R.st, R.hz, by rw [R.fF, Cc.lets_cons, hq]; rfl, R.hp⟩
theorem Rnd.short {w wr w' : World} {I B b off n cap p : Nat} {g : Nat → Int} {F : InV × Int} {q l : Int} {s : List Int} {v : InV} {z : Int} (R : Rnd w wr I B b off n cap g F (q :: s) v z p) (hq : Cc.lett q = [l]) (hN : n < p + Cc.lcnt l z) (hg : wr.grownBy w' (some B)) : InstEnd w w' B F (panics 41) := by
 refine ⟨gtr R.st.gr hg, .inr (.inl ⟨?_, rfl⟩)⟩
 rw [R.fF, Cc.lets_cons, hq]
 exact Cc.crd_short hN
theorem Rnd.bad {w wr w' : World} {I B b off n cap p : Nat} {g : Nat → Int} {F : InV × Int} {q l : Int} {s : List Int} {v : InV} {z : Int} (R : Rnd w wr I B b off n cap g F (q :: s) v z p) (hq : Cc.lett q = [l]) (hN : p + Cc.lcnt l z ≤ n)
  (hz : 2 < Cc.lsz l z (g p) ∨ (Cc.lsz l z (g p) = 2 ∧ v.op ≠ 1)) (hg : w.grownBy w' (some B)) : InstEnd w w' B F (panics 40) := by
 refine ⟨hg, .inr (.inr ⟨?_, rfl⟩)⟩
 rw [R.fF, Cc.lets_cons, hq]
 have e : (Cc.crdL n g ([l] ++ Cc.lets s) v z p).2 = -1 := Cc.crd_bad hN hz
 rw [e]; decide
theorem Rnd.least {w wr w' : World} {I B b off n cap p : Nat} {g : Nat → Int} {F : InV × Int} {s : List Int} {v : InV} {z : Int} (R : Rnd w wr I B b off n cap g F (8 :: s) v z p) (hN : p + Cc.cnt z ≤ n) (hs : Cc.size (Cc.num g p (Cc.cnt z)) ≠ z) (hg : wr.grownBy w' (some B)) : InstEnd w w' B F (panics 40) := by
 refine ⟨gtr R.st.gr hg, .inr (.inr ⟨?_, rfl⟩)⟩
 rw [R.fF, Cc.lets_cons]
 have e : (Cc.crdL n g (Cc.lett 8 ++ Cc.lets s) v z p).2 = -1 := Cc.crd_least hN R.hz hs
 rw [e]; decide
theorem prt_four {o : Int} (h : (Cc.row o).isEmpty = false) : ∃ q0 q1 q2 q3, Cc.prt o = [q0, q1, q2, q3] := by
 rcases Cc.codeOf h with rfl | rfl | rfl | rfl | rfl | rfl | rfl | rfl | rfl | rfl | rfl | rfl | rfl | rfl | rfl | rfl | rfl | rfl | rfl | rfl | rfl | rfl | rfl | rfl | rfl
 all_goals exact ⟨_, _, _, _, rfl⟩
theorem crow_four {o q0 q1 q2 q3 : Int} (h : (Cc.row o).isEmpty = false) (hq : Cc.prt o = [q0, q1, q2, q3]) (w : World) :
  Calls Tryz.prog 116 #[.int .i64 o] w fun e w' => e = .returned (.tuple #[.agg #[.int .i64 q0, .int .i64 q1, .int .i64 q2, .int .i64 q3], .bool true]) ∧ w.grownBy w' none := by
 have := crow_any o w
 rw [h, hq] at this
 exact this
theorem drop_four {q0 q1 q2 q3 : Int} {k : Nat} (hk : k < 4) : [q0, q1, q2, q3].drop k = [q0, q1, q2, q3].getD k 0 :: [q0, q1, q2, q3].drop (k + 1) := by
 have : k = 0 ∨ k = 1 ∨ k = 2 ∨ k = 3 := by omega
 rcases this with rfl | rfl | rfl | rfl <;> rfl
theorem idx_four {q0 q1 q2 q3 : Int} {k : Nat} (W : World) (hk : k < 4) : (Instr.index 131 (.agg #[.int .i64 q0, .int .i64 q1, .int .i64 q2, .int .i64 q3]) (.int .i64 k)).run Tryz.prog W = .ok (.int .i64 ([q0, q1, q2, q3].getD k 0)) W := by
 have : k = 0 ∨ k = 1 ∨ k = 2 ∨ k = 3 := by omega
 rcases this with rfl | rfl | rfl | rfl <;> rfl
theorem inst_any {w : World} {B b off n cap : Nat} {g : Nat → Int} (h : RdAt w B b off n cap g 0) (hn : 0 < n) (hr : (Cc.row (g 0)).isEmpty = false) :
  Calls Tryz.prog 81 #[.pointer (some ⟨B, 0, none⟩)] w fun e w' => InstEnd w w' B (Cc.cread n g) e := by
 obtain ⟨q0, q1, q2, q3, hq⟩ := prt_four hr
 have HR : Hid (∀ W, Calls Tryz.prog 116 #[.int .i64 (g 0)] W fun e w' => e = .returned (.tuple #[.agg #[.int .i64 q0, .int .i64 q1, .int .i64 q2, .int .i64 q3], .bool true]) ∧ W.grownBy w' none) := crow_four hr hq
 have HF : Hid (Cc.cread n g = Cc.crdL n g (Cc.lets [q0, q1, q2, q3]) ⟨g 0, 0, 0, 0, 0, 0, 0, 0, 0⟩ 0 1) := by unfold Cc.cread; rw [← hq, Cc.lets_prt hr]; exact rfl
 generalize Cc.cread n g = F at *
 have hB : B < w.heap.size := World.block_lt_of_cell? _ _ h.c0
 have hb : b < w.heap.size := World.block_lt_of_cell? _ _ (h.bs 0 hn)
 clear hq hr
 go_enter Tryz.func81, Tryz.ntmps81
 go_wp2_with (first
  | (go_at_call 115; refine (next_in (h.kept (World.grownBy_alloc _ _ none) (by simp) (by simp)) hn).mono ?_; rintro e w1 ⟨rfl, r1, g1⟩)
  | (go_at_call 116; refine (HR.out _).mono ?_; rintro e w2 ⟨rfl, g2⟩))
 have hI : w.heap.size < w1.heap.size := by have := g1.size; simp at this; omega
 have R0 : Rnd w (w2.alloc (Obj.cells #[.int .i64 q0, .int .i64 q1, .int .i64 q2, .int .i64 q3] 131)) w1.heap.size B b off n cap g F [q0, q1, q2, q3] ⟨g 0, 0, 0, 0, 0, 0, 0, 0, 0⟩ 0 1 :=
  ⟨⟨((r1.kept (World.grownBy_alloc _ _ none) (by simp) (by simp)).kept g2 (by simp) (by simp)).kept (World.grownBy_alloc _ _ none) (by simp) (by simp),
   ((InstAt.new w1 ⟨g 0, 0, 0, 0, 0, 0, 0, 0, 0⟩).kept g2 (by simp)).kept (World.grownBy_alloc _ _ none) (by simp),
   gtr (gtr (gtr (gtr (grown_noneR _ gal) g1) (grown_noneR _ gal)) (grown_noneR _ g2)) (grown_noneR _ gal),
   ((((InstAt.new w Cc.zero).kept g1 (by simp; omega)).kept (World.grownBy_alloc _ _ none) (by simp)).kept g2 (by simp)).kept (World.grownBy_alloc _ _ none) (by simp), hI, hB, hb⟩, by omega, HF.out, by decide⟩
 generalize w1.heap.size = I at *
 generalize w2.alloc (Obj.cells #[.int .i64 q0, .int .i64 q1, .int .i64 q2, .int .i64 q3] 131) = W3 at *
 have HI : Hid (∀ (k : Nat) (W : World), k < 4 → (Instr.index 131 (.agg #[.int .i64 q0, .int .i64 q1, .int .i64 q2, .int .i64 q3]) (.int .i64 k)).run Tryz.prog W = .ok (.int .i64 ([q0, q1, q2, q3].getD k 0)) W) := fun k W hk => idx_four W hk
 generalize Value.agg #[Value.int IntKind.i64 q0, Value.int IntKind.i64 q1, Value.int IntKind.i64 q2, Value.int IntKind.i64 q3] = A at *
 clear g1 g2 r1 HR HF
 go_loopw [6, 26] (fun sz s wr => ∃ (k : Nat) (z : Int) (v : InV) (p : Nat), k ≤ 4 ∧ sz = .int .i64 z ∧ s = .int .i64 k ∧ Rnd w wr I B b off n cap g F ([q0, q1, q2, q3].drop k) v z p) (fun _ s _ => 4 - (intOf s).toNat)
 case atStart => exact ⟨0, 0, _, _, by decide, rfl, rfl, R0⟩
 case round =>
  obtain ⟨k, z, v, p, hk, rfl, rfl, hR⟩ := hrel
  clear R0
  by_cases hlt : k < 4
  ·have hlt' : (k : Int) < 4 := by omega
   have hi := fun W => HI.out k W hlt
   rw [drop_four hlt] at hR
   generalize [q0, q1, q2, q3].getD k 0 = q at *
   have HS : Hid (Rnd w wr I B b off n cap g F (q :: [q0, q1, q2, q3].drop (k + 1)) v z p) := hR
   have f := hR.st.rd.ft p
   clear hR HI
   have hc : q = 1 ∨ q = 2 ∨ q = 3 ∨ q = 4 ∨ q = 5 ∨ q = 6 ∨ q = 7 ∨ q = 8 ∨ q = 9 ∨ ((q == 1) = false ∧ (q == 2) = false ∧ (q == 3) = false ∧ (q == 4) = false ∧ (q == 5) = false ∧ (q == 6) = false ∧ (q == 7) = false ∧ (q == 8) = false ∧ (q == 9) = false) := by
    simp only [beq_eq_false_iff_ne, ne_eq]; omega
   rcases hc with rfl | rfl | rfl | rfl | rfl | rfl | rfl | rfl | rfl | hc
   ·by_cases hp : p < n
    ·go_wp2_with (first
      | (go_at_call 117; refine (pair_in HS.out.st.rd hp).mono ?_; rintro e w4 ⟨rfl, r4, g4⟩; have S4 := HS.out.st.read r4 g4; obtain ⟨d0, d1, d2, d3, d4, d5, d6, d7, d8, fz⟩ := S4.ia; have z1 := fz 1; have z2 := fz 2; clear fz))
     go_roundw
     case rel => exact ⟨k + 1, _, _, _, by omega, rfl, by go_num, HS.out.next rfl hp HS.out.hz (no105 (by decide)) ((S4.put (S4.ia.set1 _)).put ((S4.put (S4.ia.set1 _)).ia.set2 _))⟩
     case measure => simp [intOf]; omega
    ·go_wp2_with (first
      | (go_at_call 117; refine (pair_out HS.out.st.rd.c0 HS.out.st.rd.c1 (by omega)).mono ?_; rintro e w4 ⟨rfl, g4⟩))
     exact ⟨rfl, HS.out.short rfl (by show n < p + 1; omega) g4⟩
   ·by_cases hp : p < n
    ·by_cases hq : 2 < g p % 16 ∨ (g p % 16 = 2 ∧ v.op ≠ 1)
     ·go_wp2_with (first
       | (go_at_call 117; refine (pair_in HS.out.st.rd hp).mono ?_; rintro e w4 ⟨rfl, r4, g4⟩; have S4 := HS.out.st.read r4 g4; obtain ⟨d0, d1, d2, d3, d4, d5, d6, d7, d8, fz⟩ := S4.ia; have z1 := fz 1; clear fz)
       | (go_at_call 118; refine (chk_no _ _ _ hq).mono ?_; rintro e w5 ⟨rfl, rfl⟩))
      exact ⟨rfl, HS.out.bad rfl hp hq (S4.put (S4.ia.set1 (g p / 16))).gr⟩
     ·go_wp2_with (first
       | (go_at_call 117; refine (pair_in HS.out.st.rd hp).mono ?_; rintro e w4 ⟨rfl, r4, g4⟩; have S4 := HS.out.st.read r4 g4; obtain ⟨d0, d1, d2, d3, d4, d5, d6, d7, d8, fz⟩ := S4.ia; have z1 := fz 1; clear fz)
       | (go_at_call 118; refine (chk_ok _ _ _ hq).mono ?_; rintro e w5 ⟨rfl, rfl⟩))
      go_roundw
      case rel => exact ⟨k + 1, _, _, _, by omega, rfl, by go_num, HS.out.next rfl hp hq (no105 (by decide)) (S4.put (S4.ia.set1 _))⟩
      case measure => simp [intOf]; omega
    ·go_wp2_with (first
      | (go_at_call 117; refine (pair_out HS.out.st.rd.c0 HS.out.st.rd.c1 (by omega)).mono ?_; rintro e w4 ⟨rfl, g4⟩))
     exact ⟨rfl, HS.out.short rfl (by show n < p + 1; omega) g4⟩
   ·by_cases hp : p < n
    ·go_wp2_with (first
      | (go_at_call 117; refine (pair_in HS.out.st.rd hp).mono ?_; rintro e w4 ⟨rfl, r4, g4⟩; have S4 := HS.out.st.read r4 g4; obtain ⟨d0, d1, d2, d3, d4, d5, d6, d7, d8, fz⟩ := S4.ia; have z3 := fz 3; have z6 := fz 6; clear fz)
      | (go_at_call 119; refine (cscale_any _ _ (by omega) (by omega)).mono ?_; rintro e w5 ⟨rfl, rfl⟩))
     go_roundw
     case rel => exact ⟨k + 1, _, _, _, by omega, rfl, by go_num, HS.out.next rfl hp HS.out.hz (no105 (by decide)) ((S4.put (S4.ia.set3 _)).put ((S4.put (S4.ia.set3 _)).ia.set6 _))⟩
     case measure => simp [intOf]; omega
    ·go_wp2_with (first
      | (go_at_call 117; refine (pair_out HS.out.st.rd.c0 HS.out.st.rd.c1 (by omega)).mono ?_; rintro e w4 ⟨rfl, g4⟩))
     exact ⟨rfl, HS.out.short rfl (by show n < p + 1; omega) g4⟩
   ·by_cases hp : p < n
    ·go_wp2_with (first
      | (go_at_call 115; refine (next_in HS.out.st.rd hp).mono ?_; rintro e w4 ⟨rfl, r4, g4⟩; have S4 := HS.out.st.read r4 g4; obtain ⟨d0, d1, d2, d3, d4, d5, d6, d7, d8, fz⟩ := S4.ia; have z4 := fz 4; clear fz))
     go_roundw
     case rel => exact ⟨k + 1, _, _, _, by omega, rfl, by go_num, HS.out.next rfl hp HS.out.hz (no105 (by decide)) (S4.put (S4.ia.set4 _))⟩
     case measure => simp [intOf]; omega
    ·go_wp2_with (first
      | (go_at_call 115; refine (next_out HS.out.st.rd.c0 HS.out.st.rd.c1 (by omega)).mono ?_; rintro e w4 ⟨rfl, g4⟩))
     exact ⟨rfl, HS.out.short rfl (by show n < p + 1; omega) g4⟩
   ·by_cases hp : p < n
    ·go_wp2_with (first
      | (go_at_call 115; refine (next_in HS.out.st.rd hp).mono ?_; rintro e w4 ⟨rfl, r4, g4⟩; have S4 := HS.out.st.read r4 g4; obtain ⟨d0, d1, d2, d3, d4, d5, d6, d7, d8, fz⟩ := S4.ia; have z5 := fz 5; clear fz))
     go_roundw
     case rel => exact ⟨k + 1, _, _, _, by omega, rfl, by go_num, HS.out.next rfl hp HS.out.hz (no105 (by decide)) (S4.put (S4.ia.set5 _))⟩
     case measure => simp [intOf]; omega
    ·go_wp2_with (first
      | (go_at_call 115; refine (next_out HS.out.st.rd.c0 HS.out.st.rd.c1 (by omega)).mono ?_; rintro e w4 ⟨rfl, g4⟩))
     exact ⟨rfl, HS.out.short rfl (by show n < p + 1; omega) g4⟩
   ·by_cases hp : p < n
    ·by_cases hq : 2 < g p ∨ (g p = 2 ∧ v.op ≠ 1)
     ·go_wp2_with (first
       | (go_at_call 115; refine (next_in HS.out.st.rd hp).mono ?_; rintro e w4 ⟨rfl, r4, g4⟩; have S4 := HS.out.st.read r4 g4; obtain ⟨d0, d1, d2, d3, d4, d5, d6, d7, d8, fz⟩ := S4.ia; have z1 := fz 1; clear fz)
       | (go_at_call 118; refine (chk_no _ _ _ hq).mono ?_; rintro e w5 ⟨rfl, rfl⟩))
      exact ⟨rfl, HS.out.bad rfl hp hq (S4).gr⟩
     ·go_wp2_with (first
       | (go_at_call 115; refine (next_in HS.out.st.rd hp).mono ?_; rintro e w4 ⟨rfl, r4, g4⟩; have S4 := HS.out.st.read r4 g4; obtain ⟨d0, d1, d2, d3, d4, d5, d6, d7, d8, fz⟩ := S4.ia; have z1 := fz 1; clear fz)
       | (go_at_call 118; refine (chk_ok _ _ _ hq).mono ?_; rintro e w5 ⟨rfl, rfl⟩))
      go_roundw
      case rel => exact ⟨k + 1, _, _, _, by omega, rfl, by go_num, HS.out.next rfl hp hq (no105 (by decide)) (S4)⟩
      case measure => simp [intOf]; omega
    ·go_wp2_with (first
      | (go_at_call 115; refine (next_out HS.out.st.rd.c0 HS.out.st.rd.c1 (by omega)).mono ?_; rintro e w4 ⟨rfl, g4⟩))
     exact ⟨rfl, HS.out.short rfl (by show n < p + 1; omega) g4⟩
   ·by_cases hp : p < n
    ·by_cases hq : 2 < g p % 16 ∨ (g p % 16 = 2 ∧ v.op ≠ 1)
     ·go_wp2_with (first
       | (go_at_call 117; refine (pair_in HS.out.st.rd hp).mono ?_; rintro e w4 ⟨rfl, r4, g4⟩; have S4 := HS.out.st.read r4 g4; obtain ⟨d0, d1, d2, d3, d4, d5, d6, d7, d8, fz⟩ := S4.ia; have z5 := fz 5; clear fz)
       | (go_at_call 118; refine (chk_no _ _ _ hq).mono ?_; rintro e w5 ⟨rfl, rfl⟩))
      exact ⟨rfl, HS.out.bad rfl hp hq (S4.put (S4.ia.set5 (g p / 16 + 11))).gr⟩
     ·go_wp2_with (first
       | (go_at_call 117; refine (pair_in HS.out.st.rd hp).mono ?_; rintro e w4 ⟨rfl, r4, g4⟩; have S4 := HS.out.st.read r4 g4; obtain ⟨d0, d1, d2, d3, d4, d5, d6, d7, d8, fz⟩ := S4.ia; have z5 := fz 5; clear fz)
       | (go_at_call 118; refine (chk_ok _ _ _ hq).mono ?_; rintro e w5 ⟨rfl, rfl⟩))
      go_roundw
      case rel => exact ⟨k + 1, _, _, _, by omega, rfl, by go_num, HS.out.next rfl hp hq (no105 (by decide)) (S4.put (S4.ia.set5 _))⟩
      case measure => simp [intOf]; omega
    ·go_wp2_with (first
      | (go_at_call 117; refine (pair_out HS.out.st.rd.c0 HS.out.st.rd.c1 (by omega)).mono ?_; rintro e w4 ⟨rfl, g4⟩))
     exact ⟨rfl, HS.out.short rfl (by show n < p + 1; omega) g4⟩
   ·by_cases hp : p + Cc.cnt z ≤ n
    ·by_cases hq : Cc.size (Cc.num g p (Cc.cnt z)) = z
     ·go_wp2_with (first
       | (go_at_call 120; refine (sized_ok HS.out.st.rd hp hq).mono ?_; rintro e w4 ⟨rfl, r4, g4⟩; have S4 := HS.out.st.read r4 g4; obtain ⟨d0, d1, d2, d3, d4, d5, d6, d7, d8, fz⟩ := S4.ia; have z7 := fz 7; clear fz))
      go_roundw
      case rel => exact ⟨k + 1, _, _, _, by omega, rfl, by go_num, HS.out.next rfl hp HS.out.hz (fun e => e.2 hq) (S4.put (S4.ia.set7 _))⟩
      case measure => simp [intOf]; omega
     ·go_wp2_with (first
       | (go_at_call 120; refine (sized_no HS.out.st.rd hp hq).mono ?_; rintro e w4 ⟨rfl, g4⟩))
      exact ⟨rfl, HS.out.least hp hq g4⟩
    ·go_wp2_with (first
      | (go_at_call 120; refine (sized_out HS.out.st.rd (by omega)).mono ?_; rintro e w4 ⟨rfl, g4⟩))
     exact ⟨rfl, HS.out.short rfl (by show n < p + Cc.cnt z; omega) g4⟩
   ·by_cases hp : p + 4 ≤ n
    ·go_wp2_with (first
      | (go_at_call 121; refine (number_in (c := 4) (by decide) HS.out.st.rd hp).mono ?_; rintro e w4 ⟨rfl, r4, g4⟩; have S4 := HS.out.st.read r4 g4; obtain ⟨d0, d1, d2, d3, d4, d5, d6, d7, d8, fz⟩ := S4.ia; have z7 := fz 7; clear fz))
     go_roundw
     case rel => exact ⟨k + 1, _, _, _, by omega, rfl, by go_num, HS.out.next rfl hp HS.out.hz (no105 (by decide)) (S4.put (S4.ia.set7 _))⟩
     case measure => simp [intOf]; omega
    ·go_wp2_with (first
      | (go_at_call 121; refine (number_out (c := 4) (by decide) HS.out.st.rd (by omega)).mono ?_; rintro e w4 ⟨rfl, g4⟩))
     exact ⟨rfl, HS.out.short rfl (by show n < p + 4; omega) g4⟩
   ·have HL0 : Cc.lett q = [] := by
     simp only [beq_eq_false_iff_ne, ne_eq] at hc
     unfold Cc.lett
     simp [hc]
    have HL : Hid (Cc.lett q = []) := HL0
    clear HL0
    obtain ⟨a1, a2, a3, a4, a5, a6, a7, a8, a9⟩ := hc
    go_wp2
    go_roundw
    case rel => exact ⟨k + 1, _, _, _, by omega, rfl, by go_num, HS.out.skip (w' := w) HL.out⟩
    case measure => simp [intOf]; omega
  ·obtain rfl : k = 4 := by omega
   have HS : Hid (Rnd w wr I B b off n cap g F [] v z p) := hR
   obtain ⟨d0, d1, d2, d3, d4, d5, d6, d7, d8, fz⟩ := hR.st.ia
   obtain ⟨e0, e1, e2, e3, e4, e5, e6, e7, e8, ez⟩ := hR.st.rs
   have z0 := ez 0
   have z1 := ez 1
   have z2 := ez 2
   have z3 := ez 3
   have z4 := ez 4
   have z5 := ez 5
   have z6 := ez 6
   have z7 := ez 7
   have z8 := ez 8
   clear hR HI fz ez
   go_wp2
   have P9 := HS.out.st.rs.put9 v
   have G9 := grown_put9 wr w.heap.size v
   have C9 := G9.cell HS.out.st.rd.c1 (by simp; omega)
   change bodyPost _ _ _ _ _ (put9 wr w.heap.size v)
   generalize put9 wr w.heap.size v = W9 at *
   obtain ⟨x0, x1, x2, x3, x4, x5, x6, x7, x8, xz⟩ := P9
   refine bodyPost_ret (by simp [results, Tryz.results81, go_sem, x0, x1, x2, x3, x4, x5, x6, x7, x8]; try rfl) rfl ?_
   have hF : F = (v, (p : Int)) := HS.out.fF
   rw [hF]
   exact ⟨grown_newR HS.out.st.gr G9 (Nat.le_refl _), .inl ⟨by have := HS.out.hp; dsimp only; omega, rfl, C9⟩⟩
end Go.Proofs.YtkiockffejlnhaaGreatDoor
