/- Contracts and plain facts that the walks share, text by text: RuRow5, LkLink, OpenG, OpenR, CpNum, LdOpen, LdCopy, LdCopyP, LdLink. -/
import Derived.Test.YtkiockffejlnhaaGreatDoorG1
import Derived.Test.YtkiockffejlnhaaGreatDoorG10
import Derived.Test.YtkiockffejlnhaaGreatDoorG7
import Derived.Deep.Slices
import Derived.OpenShut
import Derived.SizedLaws
import Derived.Laws.AppendOwnNone
/- Five cells in a row. -/
namespace Go.Proofs.YtkiockffejlnhaaGreatDoor
open Go.RowKit
set_option linter.unusedVariables false
def row5 (a b c d e : Value) : Nat → Value
  | 0 => a
  | 1 => b
  | 2 => c
  | 3 => d
  | _ => e
theorem row5_new (w : World) (a b c d e : Value) (T : TypeId) : (w.alloc (Obj.cells #[a, b, c, d, e] T)).rowIs w.heap.size T 5 (row5 a b c d e) := by
  refine ⟨_, heap_alloc_new _ _, rfl, fun i hi => ?_⟩
  have hc : i = 0 ∨ i = 1 ∨ i = 2 ∨ i = 3 ∨ i = 4 := by omega
  rcases hc with rfl | rfl | rfl | rfl | rfl <;> rfl
theorem rowIs_grown {w w' : World} {b n : Nat} {T : TypeId} {f : Nat → Value} (h : w.rowIs b T n f) (g : w.grownBy w' none) : w'.rowIs b T n f := h.of_block (g.block _ h.lt (by simp))
theorem rowIs_five {w : World} {b : Nat} {T : TypeId} {a0 a1 a2 a3 a4 : Value} (h : w.rowIs b T 5 (row5 a0 a1 a2 a3 a4)) : w.cell? ⟨b, 0, none⟩ = some a0 ∧ w.cell? ⟨b, 1, none⟩ = some a1 ∧ w.cell? ⟨b, 2, none⟩ = some a2 ∧ w.cell? ⟨b, 3, none⟩ = some a3 ∧ w.cell? ⟨b, 4, none⟩ = some a4 ∧ ∀ k, w.frozen? ⟨b, k, none⟩ = false :=
  ⟨h.cell (i := 0) (by decide), h.cell (i := 1) (by decide), h.cell (i := 2) (by decide), h.cell (i := 3) (by decide), h.cell (i := 4) (by decide), h.frozen⟩
def put5 (W : World) (R : Nat) (a b c d e : Value) : World := ((((W.setCell ⟨R, 0, none⟩ a).setCell ⟨R, 1, none⟩ b).setCell ⟨R, 2, none⟩ c).setCell ⟨R, 3, none⟩ d).setCell ⟨R, 4, none⟩ e
theorem grown_put5 (W : World) (R : Nat) (a b c d e : Value) : W.grownBy (put5 W R a b c d e) (some R) :=
  grown_trans (grown_trans (grown_trans (grown_trans (grown_setCell _ _ _ _) (grown_setCell _ _ _ _)) (grown_setCell _ _ _ _)) (grown_setCell _ _ _ _)) (grown_setCell _ _ _ _)
theorem row5_put {W : World} {R : Nat} {T : TypeId} {f : Nat → Value} (h : W.rowIs R T 5 f) (a b c d e : Value) : (put5 W R a b c d e).rowIs R T 5 (row5 a b c d e) :=
  (((((h.set 0 a).set 1 b).set 2 c).set 3 d).set 4 e).congr fun i hi => by
    have hc : i = 0 ∨ i = 1 ∨ i = 2 ∨ i = 3 ∨ i = 4 := by omega
    rcases hc with rfl | rfl | rfl | rfl | rfl <;> rfl
end Go.Proofs.YtkiockffejlnhaaGreatDoor

/- link.Link whole. -/
namespace Go.Proofs.YtkiockffejlnhaaGreatDoor
open Go.RowKit
set_option linter.unusedVariables false
theorem snil_eq (w : World) : (binOp .eql 24 (.slice none 0 0) (.slice none 0 0)).run Tryz.prog w = .ok (.bool true) w := by kernel_rfl
theorem snil_ne (ad : Addr) (n cap : Nat) (w : World) : (binOp .eql 24 (.slice (some ad) n cap) (.slice none 0 0)).run Tryz.prog w = .ok (.bool false) w := by kernel_rfl
set_option maxRecDepth 100000 in
set_option maxHeartbeats 4000000 in
theorem sclone_any (n cap : Nat) (ao : Option Addr) (g : Nat → Int) (w : World) (hn : (n : Int) ≤ 1048576) (h0 : ao = none → n = 0 ∧ cap = 0) (ha : Bs w ao n g) :
    Calls Tryz.prog 25 #[.slice ao n cap] w fun e w' => ∃ v, e = .returned v ∧ OwnB w' w.heap.size v n g ∧ w.grownBy w' none := by
  obtain ⟨i, hi, hz0, hz1, hz2⟩ := info_parts info_u8
  have e1 := snil_eq
  have e2 := snil_ne
  cases ao with
  | none =>
    obtain ⟨rfl, rfl⟩ := h0 rfl
    go_enter Tryz.func25, Tryz.ntmps25
    go_wp2
    go_ret
    exact ⟨_, rfl, World.ownsRow_nil _ _ _ _, World.grownBy.refl _ _⟩
  | some ad =>
    have HC : Hid (∀ j u, (bytesL n g)[j]? = some u → (w.alloc (.cells #[] 5)).cell? (ad.add j) = some u) := by
      intro j u hu
      obtain ⟨hj, rfl⟩ := bytesL_get hu
      obtain ⟨b, o, e, hc⟩ := ha.at (by omega)
      injection e with e
      subst e
      rw [add_none]
      exact (World.grownBy_alloc _ _ none).cell (hc j hj) (by simp)
    have HL : Hid ((w.alloc (.cells #[] 5)).ownsRow w.heap.size 5 1 (.slice (some ⟨w.heap.size, 0, none⟩) 0 0) 0 []) := OwnL.lit w w.heap.size [] (Nat.le_refl _) (Nat.zero_le _)
    clear ha h0
    go_enter Tryz.func25, Tryz.ntmps25
    go_wp2_with (at_builtin; refine wpList_append_own _ rfl _ _ 24 rfl w.heap.size 5 i (.int .u8 0) 1 1 Tryz.underlying24 hi hz0 hz1 hz2 rfl (by decide) _ 0 [] rfl HL.out ad n cap (bytesL n g) rfl (by rw [bytesL_len]; omega) HC.out (bytesL_one _ _) (by unfold maxLen; omega) (by omega) (by simp) ?_; intro v' w2 ho2 hg2 hv2; simp only [Nat.zero_add, List.nil_append] at ho2)
    go_ret
    exact ⟨_, rfl, ho2, grown_two (b := w.heap.size) (World.grownBy_alloc _ _ _) hg2 (Nat.le_refl _)⟩
namespace Lk
theorem Sh.Ok.least {P : Sh} (h : P.Ok) : ∃ L, P.Least L := by
  refine ⟨fun i => @decide (∀ C, P.Closed C → C i = true) (Classical.propDecidable _), fun i hi hj hf => ?_, fun C hC i hi hj hL => ?_⟩
  · refine @decide_eq_true _ (Classical.propDecidable _) (fun C hC => hC i hi hj (h.far_mono (fun k hk hkj hL => ?_) hi hj hf))
    exact @of_decide_eq_true _ (Classical.propDecidable _) hL C hC
  · exact @of_decide_eq_true _ (Classical.propDecidable _) hL C hC
end Lk
theorem InsIn.up {N N' : Nat} {w : World} {a : Option Addr} {n c : Nat} {I : Nat → InV} (h : InsIn N w a n c I) (hN : N ≤ N') : InsIn N' w a n c I :=
  ⟨h.le, h.max, h.lie.imp id fun ⟨b, off, e, hb, hi⟩ => ⟨b, off, e, Nat.lt_of_lt_of_le hb hN, hi⟩, h.rng⟩
theorem NumIn.up {N N' : Nat} {w : World} {a : Option Addr} {n c : Nat} {M : Nat → Int} (h : NumIn N w a n c M) (hN : N ≤ N') : NumIn N' w a n c M :=
  ⟨h.le, h.max, h.lie.imp id fun ⟨b, off, e, hb, hi⟩ => ⟨b, off, e, Nat.lt_of_lt_of_le hb hN, hi⟩⟩
theorem PcsIn.up {N N' : Nat} {w : World} {a : Option Addr} {K c : Nat} {V : Nat → Lk.PcV} {A : Nat → PcA} (h : PcsIn N w a K c V A) (hN : N ≤ N') : PcsIn N' w a K c V A :=
  ⟨h.le, h.max, h.lie.imp id fun ⟨b, off, e, hb, hi⟩ => ⟨b, off, e, Nat.lt_of_lt_of_le hb hN, fun k hk => ⟨(hi k hk).c0, (hi k hk).c1, (hi k hk).c2, (hi k hk).ins.up hN, (hi k hk).mks.up hN⟩⟩⟩
theorem Rw.congr {N : Nat} {w : World} {rv : Value} {K fe : Nat} {V : Nat → Lk.PcV} {A : Nat → PtA} {S S' : Nat → Nat → Int} (h : Rw N w rv K fe V A S) (e : ∀ k, k < K → S k = S' k) : Rw N w rv K fe V A S' :=
  ⟨h.own, h.pt, fun k hk => by rw [← e k hk]; exact h.sz k hk, h.dis⟩
theorem Rw.one {N : Nat} {w w' : World} {rv : Value} {K fe : Nat} {V : Nat → Lk.PcV} {A : Nat → PtA} {S : Nat → Nat → Int} (h : Rw N w rv K fe V A S) {k : Nat} (hk : k < K) (hC : Ch w w' [(A k).T]) {s : Nat → Int} (ho : OwnN w' N (.slice (some ⟨(A k).T, 0, none⟩) (V k).n (V k).n) (V k).n s) : Rw N w' rv K fe V A (fun j => if j = k then s else S j) := by
  obtain ⟨cur, hcur⟩ := (h.sz k hk).blk
  have hTN : N ≤ (A k).T := (h.sz k hk).base _ rfl
  have hl : ∀ j, j ∈ [(A k).T] → N ≤ j := by intro j hj; simp at hj; rw [hj]; exact hTN
  refine ⟨ownsRow_ch h.own hC (fun b hb hm => ?_), fun j hj => (h.pt j hj).ch hC hl (fun hm => ?_), fun j hj => ?_, h.dis⟩
  · simp at hm
    subst hm
    rcases h.own.2 with ⟨e1, _⟩ | ⟨g', c, cur', e1, _, e2, _⟩
    · rw [e1] at hb; cases hb
    · rw [e1] at hb
      simp [Value.ownBlock] at hb
      rw [hb, hcur] at e2
      simp at e2
  · simp at hm
    have := (h.pt j hj).blk
    rw [hm, hcur] at this
    simp at this
  · by_cases e : j = k
    · subst e; simp only [if_true]; exact ho
    · simp only [e, if_false]
      exact (h.sz j hj).ch hC (fun b hb hm => by simp [Value.ownBlock] at hb hm; exact h.dis j k hj hk e (hb.trans hm))
theorem own_ne {w : World} {base : Nat} {e : TypeId} {size n : Nat} {v : Value} {xs : List Value} {b : Nat} (h : w.ownsRow base e size v n xs) (hb : b < base) : v.ownBlock = none ∨ v.ownBlock ≠ some b := by
  cases hv : v.ownBlock with
  | none => exact .inl rfl
  | some g => exact .inr (by have := (World.ownsRow.lt h g hv).1; simp; omega)
def psiK (vals : List Value) (t f : Int) (fs : Value) (base : Nat) (l : List Int) (dn : Nat) (g : Nat → Int) (i : Nat) (v : Value) (w : World) : Prop :=
  if i = 3 then OwnL w base v l else if i = 5 then OwnB w base v dn g
  else if i = 11 then ∃ v3 v5, v = .agg #[.int .i64 t, v3, v5, .int .i64 f, fs] ∧ OwnL w base v3 l ∧ OwnB w base v5 dn g else v = vals.getD i undef
theorem psiK_stable {vals : List Value} {t f : Int} {fs : Value} {base : Nat} {l : List Int} {dn : Nat} {g : Nat → Int} {i : Nat} {v : Value} {w w' : World} (h : psiK vals t f fs base l dn g i v w) (gr : w.grownBy w' none) : psiK vals t f fs base l dn g i v w' := by
  unfold psiK at h ⊢
  split
  · rename_i h1; rw [if_pos h1] at h; exact OwnL.grow h gr
  · rename_i h1
    rw [if_neg h1] at h
    split
    · rename_i h2; rw [if_pos h2] at h; exact World.ownsRow.kept h gr (Classical.em _)
    · rename_i h2
      rw [if_neg h2] at h
      split
      · rename_i h3
        rw [if_pos h3] at h
        obtain ⟨v3, v5, e, o1, o2⟩ := h
        exact ⟨v3, v5, e, OwnL.grow o1 gr, World.ownsRow.kept o2 gr (Classical.em _)⟩
      · rename_i h3; rwa [if_neg h3] at h
theorem psiK_f {vals : List Value} {t f : Int} {fs : Value} {base : Nat} {l : List Int} {dn : Nat} {g : Nat → Int} {i : Nat} {v : Value} {w : World} (h : psiK vals t f fs base l dn g i v w) (h3 : i ≠ 3) (h5 : i ≠ 5) (h11 : i ≠ 11) : v = vals.getD i undef := by unfold psiK at h; rwa [if_neg h3, if_neg h5, if_neg h11] at h
theorem psiK_mf {vals : List Value} {t f : Int} {fs : Value} {base : Nat} {l : List Int} {dn : Nat} {g : Nat → Int} {i : Nat} {v : Value} {w : World} (h3 : i ≠ 3) (h5 : i ≠ 5) (h11 : i ≠ 11) (h : v = vals.getD i undef) : psiK vals t f fs base l dn g i v w := by unfold psiK; rwa [if_neg h3, if_neg h5, if_neg h11]
def LkRes (t : Int) (K : Nat) (V : Nat → Lk.PcV) (Ls : Nat → Nat → Bool) (dn : Nat) (dg : Nat → Int) (en : Nat) (w : World) (e : Ending) (w' : World) : Prop :=
  ((1048576 < dn ∨ 1048576 < Lk.pos (ends V (Lk.SS t V Ls)) K) ∧ e = .returned (.tuple #[.agg #[.int .i64 0, .slice none 0 0, .slice none 0 0, .int .i64 0, .slice none 0 0], .int .i64 61])) ∨
  (dn ≤ 1048576 ∧ Lk.pos (ends V (Lk.SS t V Ls)) K ≤ 1048576 ∧ ∃ cv dv TF, e = .returned (.tuple #[.agg #[.int .i64 t, cv, dv, .int .i64 (Lk.pos (ends V (Lk.SS t V Ls)) en), .slice (some ⟨TF, 0, none⟩) K K], .int .i64 0]) ∧
    OwnL w' w.heap.size cv (Lk.codeA t V (Lk.SS t V Ls) K) ∧ OwnB w' w.heap.size dv dn dg ∧ OwnN w' w.heap.size (.slice (some ⟨TF, 0, none⟩) K K) K (Lk.pos (ends V (Lk.SS t V Ls))))
set_option maxRecDepth 100000 in
set_option maxHeartbeats 4000000 in
theorem link_no {w : World} {t en : Int} {a da : Option Addr} {K c dn dc : Nat} (hT : ∀ W, w.grownBy W none → Calls Tryz.prog 20 #[.int .i64 t, .slice a K c] W fun e w' => e = .returned (.tuple #[.slice none 0 0, .bool false]) ∧ W.grownBy w' none) :
    Calls Tryz.prog 8 #[.int .i64 t, .slice a K c, .slice da dn dc, .int .i64 en] w fun e w' => e = .returned (.tuple #[.agg #[.int .i64 0, .slice none 0 0, .slice none 0 0, .int .i64 0, .slice none 0 0], .int .i64 60]) ∧ w.grownBy w' none := by
  have RZ : Hid ((w.alloc (Obj.cells #[.int .i64 0, .slice none 0 0, .slice none 0 0, .int .i64 0, .slice none 0 0] 32)).rowIs w.heap.size 32 5 (row5 (.int .i64 0) (.slice none 0 0) (.slice none 0 0) (.int .i64 0) (.slice none 0 0))) := row5_new _ _ _ _ _ _ _
  have HT : Hid (Calls Tryz.prog 20 #[.int .i64 t, .slice a K c] (w.alloc (Obj.cells #[.int .i64 0, .slice none 0 0, .slice none 0 0, .int .i64 0, .slice none 0 0] 32)) fun e w' => e = .returned (.tuple #[.slice none 0 0, .bool false]) ∧ (w.alloc (Obj.cells #[.int .i64 0, .slice none 0 0, .slice none 0 0, .int .i64 0, .slice none 0 0] 32)).grownBy w' none) := hT _ (World.grownBy_alloc _ _ _)
  clear hT
  go_enter Tryz.func8, Tryz.ntmps8
  go_wp2_with (go_at_call 20; refine HT.out.mono ?_; rintro e w1 ⟨rfl, g1⟩; obtain ⟨z0, z1, z2, z3, z4, zz⟩ := rowIs_five (rowIs_grown RZ.out g1); have f0 := zz 0; have f1 := zz 1; have f2 := zz 2; have f3 := zz 3; have f4 := zz 4; clear zz)
  change bodyPost _ _ _ _ _ (put5 w1 w.heap.size (.int .i64 0) (.slice none 0 0) (.slice none 0 0) (.int .i64 0) (.slice none 0 0))
  obtain ⟨q0, q1, q2, q3, q4, qz⟩ := rowIs_five (row5_put (rowIs_grown RZ.out g1) (.int .i64 0) (.slice none 0 0) (.slice none 0 0) (.int .i64 0) (.slice none 0 0))
  refine bodyPost_ret (by simp [results, Tryz.results8, go_sem, q0, q1, q2, q3, q4]; try rfl) rfl ?_
  exact ⟨rfl, grown_two (grown_trans (World.grownBy_alloc _ _ _) g1) (grown_put5 _ _ _ _ _ _ _) (Nat.le_refl _)⟩
set_option maxRecDepth 100000 in
set_option maxHeartbeats 4000000 in
theorem link_er {w : World} {en : Int} {a da : Option Addr} {K c dn dc : Nat} {V : Nat → Lk.PcV} {A : Nat → PcA} (h : PcsIn w.heap.size w a K c V A) (hTab : TabAt w) (hK0 : 0 < K) (hK : K ≤ 33) (hn : ∀ k, k < K → ((V k).n : Int) ≤ 8796093022208) (he : en < 0 ∨ (K : Int) ≤ en) :
    Calls Tryz.prog 8 #[.int .i64 1, .slice a K c, .slice da dn dc, .int .i64 en] w fun e w' => e = .returned (.tuple #[.agg #[.int .i64 0, .slice none 0 0, .slice none 0 0, .int .i64 0, .slice none 0 0], .int .i64 60]) ∧ w.grownBy w' none := by
  have RZ : Hid ((w.alloc (Obj.cells #[.int .i64 0, .slice none 0 0, .slice none 0 0, .int .i64 0, .slice none 0 0] 32)).rowIs w.heap.size 32 5 (row5 (.int .i64 0) (.slice none 0 0) (.slice none 0 0) (.int .i64 0) (.slice none 0 0))) := row5_new _ _ _ _ _ _ _
  have hA := World.grownBy_alloc w (Obj.cells #[.int .i64 0, .slice none 0 0, .slice none 0 0, .int .i64 0, .slice none 0 0] 32) none
  have HT : Hid (Calls Tryz.prog 20 #[.int .i64 1, .slice a K c] (w.alloc (Obj.cells #[.int .i64 0, .slice none 0 0, .slice none 0 0, .int .i64 0, .slice none 0 0] 32)) fun e w' => (w.alloc (Obj.cells #[.int .i64 0, .slice none 0 0, .slice none 0 0, .int .i64 0, .slice none 0 0] 32)).grownBy w' none ∧ ∃ rv b, e = .returned (.tuple #[rv, .bool b])) :=
    (take_r (N := w.heap.size) (h.ch (l := []) (Ch.of hA) (by simp)) (hTab.kept hA (by simp)) hTab.1 hA.size hK0 hK hn).mono (by
      rintro e w' ⟨g, ⟨_, rv, B, rfl, _⟩ | ⟨_, rfl⟩⟩
      · exact ⟨g, rv, true, rfl⟩
      · exact ⟨g, _, false, rfl⟩)
  have HG : Hid (∀ w1, (w.alloc (Obj.cells #[.int .i64 0, .slice none 0 0, .slice none 0 0, .int .i64 0, .slice none 0 0] 32)).grownBy w1 none → w.grownBy (put5 w1 w.heap.size (.int .i64 0) (.slice none 0 0) (.slice none 0 0) (.int .i64 0) (.slice none 0 0)) none) := fun w1 g1 => grown_two (grown_trans (World.grownBy_alloc _ _ _) g1) (grown_put5 _ _ _ _ _ _ _) (Nat.le_refl _)
  clear h hTab hn hA
  rcases he with he | he
  all_goals
    go_enter Tryz.func8, Tryz.ntmps8
    go_wp2_with (go_at_call 20; refine HT.out.mono ?_; rintro e w1 ⟨g1, rv, b, rfl⟩; obtain ⟨z0, z1, z2, z3, z4, zz⟩ := rowIs_five (rowIs_grown RZ.out g1); have f0 := zz 0; have f1 := zz 1; have f2 := zz 2; have f3 := zz 3; have f4 := zz 4; clear zz; cases b)
    all_goals
      change bodyPost _ _ _ _ _ (put5 w1 w.heap.size (.int .i64 0) (.slice none 0 0) (.slice none 0 0) (.int .i64 0) (.slice none 0 0))
      obtain ⟨q0, q1, q2, q3, q4, qz⟩ := rowIs_five (row5_put (rowIs_grown RZ.out g1) (.int .i64 0) (.slice none 0 0) (.slice none 0 0) (.int .i64 0) (.slice none 0 0))
      refine bodyPost_ret (by simp [results, Tryz.results8, go_sem, q0, q1, q2, q3, q4]; try rfl) rfl ?_
      exact ⟨rfl, HG.out w1 g1⟩
set_option maxRecDepth 100000 in
set_option maxHeartbeats 32000000 in
theorem link_r {w : World} {a da : Option Addr} {K c dn dc en : Nat} {V : Nat → Lk.PcV} {A : Nat → PcA} {dg : Nat → Int} (h : PcsIn w.heap.size w a K c V A) (hTab : TabAt w) (hK0 : 0 < K) (hK : K ≤ 33) (hn : ∀ k, k < K → ((V k).n : Int) ≤ 8796093022208) (hB : Lk.piecesB 1 K V = true) (he : en < K)
    (hd0 : da = none → dn = 0 ∧ dc = 0) (hd : Bs w da dn dg) (hdl : ∀ b off, 0 < dn → da = some ⟨b, off, none⟩ → b < w.heap.size) (hdn : (dn : Int) ≤ 9223372036854775807) :
    Calls Tryz.prog 8 #[.int .i64 1, .slice a K c, .slice da dn dc, .int .i64 en] w fun e w' => w.grownBy w' none ∧ ∃ Ls, (∀ k, k < K → ((V k).sh 1).Least (Ls k)) ∧ LkRes 1 K V Ls dn dg en w e w' := by
  have hok : ∀ k, k < K → (V k).Ok 1 K := fun k hk => Lk.PcV.ok_of (Lk.piecesB_iff.1 hB k hk).1 (Lk.piecesB_iff.1 hB k hk).2
  have hrng : ∀ k, k < K → ∀ i, i < (V k).n → InRng ((V k).I i) := fun k hk i hi => by
    obtain ⟨b, off, _, _, hp⟩ := h.at hk
    exact hp.ins.rng i hi
  have hL0 : ∀ k, ∃ L, k < K → ((V k).sh 1).Least L := fun k => by
    by_cases hk : k < K
    · obtain ⟨L, hL⟩ := (hok k hk).sh.least
      exact ⟨L, fun _ => hL⟩
    · exact ⟨fun _ => false, fun h => absurd h hk⟩
  have hA := World.grownBy_alloc w (Obj.cells #[.int .i64 0, .slice none 0 0, .slice none 0 0, .int .i64 0, .slice none 0 0] 32) none
  have RZ : Hid ((w.alloc (Obj.cells #[.int .i64 0, .slice none 0 0, .slice none 0 0, .int .i64 0, .slice none 0 0] 32)).rowIs w.heap.size 32 5 (row5 (.int .i64 0) (.slice none 0 0) (.slice none 0 0) (.int .i64 0) (.slice none 0 0))) := row5_new _ _ _ _ _ _ _
  obtain ⟨w0, hw0⟩ : ∃ w0, w0 = w.alloc (Obj.cells #[.int .i64 0, .slice none 0 0, .slice none 0 0, .int .i64 0, .slice none 0 0] 32) := ⟨_, rfl⟩
  have hsz : w0.heap.size = w.heap.size + 1 := by rw [hw0]; simp
  have hN0 : w.heap.size + 1 ≤ w0.heap.size := Nat.le_of_eq hsz.symm
  rw [← hw0] at hA RZ
  have HTk : Hid (Calls Tryz.prog 20 #[.int .i64 1, .slice a K c] w0 fun e w' => w0.grownBy w' none ∧ ∃ rv B, e = .returned (.tuple #[rv, .bool true]) ∧ Rw (w.heap.size + 1) w' rv K 60 V B (fun k => ((V k).sh 1).s)) :=
    (take_r (N := w.heap.size + 1) ((h.ch (l := []) (Ch.of hA) (by simp)).up (Nat.le_succ _)) (hTab.kept hA (by simp)) (by have := hTab.1; omega) hN0 hK0 hK hn).mono (by
      rintro e w' ⟨g, ⟨_, rv, B, rfl, hr⟩ | ⟨hf, _⟩⟩
      · exact ⟨g, rv, B, rfl, hr⟩
      · rw [hB] at hf; cases hf)
  have hlim : ∀ Ls : Nat → Nat → Bool, Lim K V (fun k => ((V k).sh 1).size (Ls k)) := fun Ls => ⟨hn, fun k hk i hi => by have := Lk.size_le (hok k hk) (Ls k) hi; show 0 ≤ ((V k).sh 1).size (Ls k) i ∧ ((V k).sh 1).size (Ls k) i ≤ 40; omega⟩
  have hs0 : (fun k => ((V k).sh 1).size (fun _ => false)) = (fun k => ((V k).sh 1).s) := by funext k i; unfold Lk.Sh.size; simp
  have hlim0 : Lim K V (fun k => ((V k).sh 1).s) := by rw [← hs0]; exact hlim (fun _ _ => false)
  have HLg : Hid (∀ W rv B S, Rw (w.heap.size + 1) W rv K 60 V B S → Lim K V S → Calls Tryz.prog 21 #[rv] W fun e w' => e = .returned (.bool (decide (1048576 < Lk.pos (ends V S) K))) ∧ W.grownBy w' none) := fun W rv B S hr hl => large_any hr hl hK
  have HPl : Hid (∀ W rv B S, Rw (w.heap.size + 1) W rv K 60 V B S → Lim K V S → Calls Tryz.prog 23 #[rv] W fun e w' => e = .returned (.tuple #[.slice (some ⟨W.heap.size, 0, none⟩) K K, .int .i64 (Lk.pos (ends V S) K)]) ∧ OwnN w' W.heap.size (.slice (some ⟨W.heap.size, 0, none⟩) K K) K (Lk.pos (ends V S)) ∧ W.grownBy w' none) := fun W rv B S hr hl => rplaces_any hr hl hK
  have hmono : ∀ Ls : Nat → Nat → Bool, Lk.pos (ends V (fun k => ((V k).sh 1).s)) K ≤ Lk.pos (ends V (Lk.SS 1 V Ls)) K := fun Ls => by
    have := Lk.pos_le (s := ends V (fun k => ((V k).sh 1).s)) (s' := ends V (Lk.SS 1 V Ls)) (Nat.zero_le K) (fun k _ hk => by
      have := Lk.pos_le (s := ((V k).sh 1).s) (s' := Lk.SS 1 V Ls k) (Nat.zero_le (V k).n) (fun i _ hi => by
        show ((V k).sh 1).s i ≤ ((V k).sh 1).size (Ls k) i
        unfold Lk.Sh.size
        split
        · next hh => exact (hok k hk).sh.le i hi (by simp at hh; exact hh.1)
        · exact Int.le_refl _)
      have e0 : ∀ s : Nat → Int, Lk.pos s 0 = 0 := fun _ => rfl
      rw [e0, e0] at this
      show Lk.pos ((V k).sh 1).s (V k).n ≤ Lk.pos (Lk.SS 1 V Ls k) (V k).n
      omega)
    have e0 : ∀ s : Nat → Int, Lk.pos s 0 = 0 := fun _ => rfl
    rw [e0, e0] at this
    omega
  have HTw : Hid (∀ W, w0.grownBy W none → TabAt W) := fun W g => (hTab.kept hA (by simp)).kept g (by simp)
  have hTN := hTab.1
  obtain ⟨Ls0, hLs0⟩ : ∃ Ls0 : Nat → Nat → Bool, ∀ k, k < K → ((V k).sh 1).Least (Ls0 k) := ⟨fun k => Classical.choose (hL0 k), fun k hk => Classical.choose_spec (hL0 k) hk⟩
  have HGr : Hid (Lk.pos (ends V (fun k => ((V k).sh 1).s)) K ≤ 1048576 → ∀ W rv B S k, k < K → Rw (w.heap.size + 1) W rv K 60 V B S → S k = ((V k).sh 1).s → w0.grownBy W none → Calls Tryz.prog 22 #[.pointer (some ⟨(B k).B, 0, none⟩)] W fun e w' => e = .returned (.tuple #[]) ∧ ∃ L, ((V k).sh 1).Least L ∧ OwnN w' (w.heap.size + 1) (.slice (some ⟨(B k).T, 0, none⟩) (V k).n (V k).n) (V k).n (((V k).sh 1).size L) ∧ Ch W w' [(B k).T]) := fun hmx W rv B S k hk hr hS hg => by
    have hs : ∀ j, j < K → ∀ i, i < (V j).n → 1 ≤ ((V j).sh 1).s i ∧ ((V j).sh 1).s i ≤ 33 := fun j hj i hi => by
      have := Lk.size_le (hok j hj) (fun _ => false) hi
      have e : ((V j).sh 1).size (fun _ => false) i = ((V j).sh 1).s i := by unfold Lk.Sh.size; simp
      rw [e] at this
      exact this
    have hc := Lk.pos_count (s := ((V k).sh 1).s) (Nat.zero_le (V k).n) (fun i _ hi => (hs k hk i hi).1)
    have e0 : ∀ s : Nat → Int, Lk.pos s 0 = 0 := fun _ => rfl
    have hp0 : ∀ j, j < K → 0 ≤ ends V (fun k => ((V k).sh 1).s) j := fun j hj => by
      have := Lk.pos_mono (s := ((V j).sh 1).s) (Nat.zero_le (V j).n) (fun i _ hi => by have := (hs j hj i hi).1; omega)
      rw [e0] at this
      exact this
    have h1 := Lk.pos_mono (s := ends V (fun k => ((V k).sh 1).s)) (Nat.zero_le k) (fun j _ hj => hp0 j (by omega))
    have h2 := Lk.pos_mono (s := ends V (fun k => ((V k).sh 1).s)) (a := k + 1) (b := K) (by omega) (fun j _ hj => hp0 j hj)
    have h3 : Lk.pos (ends V (fun k => ((V k).sh 1).s)) (k + 1) = Lk.pos (ends V (fun k => ((V k).sh 1).s)) k + Lk.pos ((V k).sh 1).s (V k).n := rfl
    rw [e0] at hc h1
    have hoo := hr.sz k hk
    rw [hS] at hoo
    obtain ⟨cur, hcur⟩ := hoo.blk
    refine pgrow_r (hr.pt k hk) (HTw.out W hg) (by omega) hoo (fun e => ?_) (hok k hk) (by omega) (fun i hi => by have := hs k hk i hi; omega)
    have := (hr.pt k hk).blk
    rw [e, hcur] at this
    simp at this
  have HCo : Hid (∀ W rv B Ls TF bF, Rw (w.heap.size + 1) W rv K 60 V B (Lk.SS 1 V Ls) → OwnN W bF (.slice (some ⟨TF, 0, none⟩) K K) K (Lk.pos (ends V (Lk.SS 1 V Ls))) → (∀ k, k < K → ((V k).sh 1).Least (Ls k)) → Lk.pos (ends V (Lk.SS 1 V Ls)) K ≤ 1048576 → w0.grownBy W none → Calls Tryz.prog 24 #[rv, .slice (some ⟨TF, 0, none⟩) K K] W fun e w' => ∃ v, e = .returned v ∧ OwnL w' W.heap.size v (Lk.codeA 1 V (Lk.SS 1 V Ls) K) ∧ W.grownBy w' none) := fun W rv B Ls TF bF hr hF hl hm hg =>
    code_r hr hF ⟨hok, hl, hrng, hm⟩ (HTw.out W hg) (by omega) (by have := hg.size; omega) hK
  have HCl : Hid (dn ≤ 1048576 → ∀ W, w0.grownBy W none → Calls Tryz.prog 25 #[.slice da dn dc] W fun e w' => ∃ v, e = .returned v ∧ OwnB w' W.heap.size v dn dg ∧ W.grownBy w' none) := fun hle W hg => by
    refine sclone_any dn dc da dg W (by omega) hd0 ?_
    rcases Nat.eq_zero_or_pos dn with h0 | h0
    · exact .inl h0
    · obtain ⟨b, o, e, hc⟩ := hd.at h0
      exact .inr ⟨b, o, e, fun i hi => (grown_trans hA hg).cell (hc i hi) (by simp)⟩
  have HLim : Hid (∀ Ls : Nat → Nat → Bool, Lim K V (fun k => ((V k).sh 1).size (Ls k))) := hlim
  have HLim0 : Hid (Lim K V (fun k => ((V k).sh 1).s)) := hlim0
  have HMo : Hid (∀ Ls : Nat → Nat → Bool, Lk.pos (ends V (fun k => ((V k).sh 1).s)) K ≤ Lk.pos (ends V (Lk.SS 1 V Ls)) K) := hmono
  have HLs0 : Hid (∀ k, k < K → ((V k).sh 1).Least (Ls0 k)) := hLs0
  have HA : Hid (w.grownBy w0 none) := hA
  have HEnd : Hid (∀ W, w0.grownBy W none → ∀ v0 v1 v2 v3 v4, w.grownBy (put5 W w.heap.size v0 v1 v2 v3 v4) none ∧ (put5 W w.heap.size v0 v1 v2 v3 v4).rowIs w.heap.size 32 5 (row5 v0 v1 v2 v3 v4)) := fun W g v0 v1 v2 v3 v4 => ⟨grown_two (grown_trans hA g) (grown_put5 _ _ _ _ _ _ _) (Nat.le_refl _), row5_put (rowIs_grown RZ.out g) _ _ _ _ _⟩
  have hK' : (K : Int) ≤ 33 := by omega
  have hK0' : (0 : Int) < K := by omega
  have he' : (en : Int) < K := by omega
  have HW0 : Hid (w0 = w.alloc (Obj.cells #[.int .i64 0, .slice none 0 0, .slice none 0 0, .int .i64 0, .slice none 0 0] 32)) := hw0
  have hb0 : w.heap.size < w0.heap.size := by omega
  have hb1 : w0.heap.size ≤ w.heap.size + 1 := by omega
  clear h hTab hn hB hd0 hd hdl hok hrng hL0 hA hlim hlim0 hs0 hmono hLs0 hsz
  by_cases hdb : 1048576 < dn
  · have hdb' : (1048576 : Int) < dn := by omega
    go_enter Tryz.func8, Tryz.ntmps8
    go_wp2_with (go_at_call 20; rw [← hw0]; refine HTk.out.mono ?_; rintro e w1 ⟨g1, rv, B, rfl, hr⟩; obtain ⟨z0, z1, z2, z3, z4, zz⟩ := rowIs_five (rowIs_grown RZ.out g1); have f0 := zz 0; have f1 := zz 1; have f2 := zz 2; have f3 := zz 3; have f4 := zz 4; clear zz)
    change bodyPost _ _ _ _ _ (put5 w1 w.heap.size (.int .i64 0) (.slice none 0 0) (.slice none 0 0) (.int .i64 0) (.slice none 0 0))
    obtain ⟨hgE, hrE⟩ := HEnd.out w1 g1 (.int .i64 0) (.slice none 0 0) (.slice none 0 0) (.int .i64 0) (.slice none 0 0)
    obtain ⟨q0, q1, q2, q3, q4, qz⟩ := rowIs_five hrE
    refine bodyPost_ret (by simp [results, Tryz.results8, go_sem, q0, q1, q2, q3, q4]; try rfl) rfl ?_
    exact ⟨hgE, Ls0, HLs0.out, .inl ⟨.inl hdb, rfl⟩⟩
  · have hdb' : (dn : Int) ≤ 1048576 := by omega
    by_cases htl : 1048576 < Lk.pos (ends V (fun k => ((V k).sh 1).s)) K
    · go_enter Tryz.func8, Tryz.ntmps8
      go_wp2_with (first
        | (go_at_call 20; rw [← hw0]; refine HTk.out.mono ?_; rintro e w1 ⟨g1, rv, B, rfl, hr⟩)
        | (go_at_call 21; refine (HLg.out _ _ _ _ hr HLim0.out).mono ?_; rintro e w2 ⟨rfl, g2⟩; rw [decide_eq_true htl]; obtain ⟨z0, z1, z2, z3, z4, zz⟩ := rowIs_five (rowIs_grown RZ.out (grown_trans g1 g2)); have f0 := zz 0; have f1 := zz 1; have f2 := zz 2; have f3 := zz 3; have f4 := zz 4; clear zz))
      change bodyPost _ _ _ _ _ (put5 w2 w.heap.size (.int .i64 0) (.slice none 0 0) (.slice none 0 0) (.int .i64 0) (.slice none 0 0))
      obtain ⟨hgE, hrE⟩ := HEnd.out w2 (grown_trans g1 g2) (.int .i64 0) (.slice none 0 0) (.slice none 0 0) (.int .i64 0) (.slice none 0 0)
      obtain ⟨q0, q1, q2, q3, q4, qz⟩ := rowIs_five hrE
      refine bodyPost_ret (by simp [results, Tryz.results8, go_sem, q0, q1, q2, q3, q4]; try rfl) rfl ?_
      exact ⟨hgE, Ls0, HLs0.out, .inl ⟨.inr (by have := HMo.out Ls0; omega), rfl⟩⟩
    · have htl' : Lk.pos (ends V (fun k => ((V k).sh 1).s)) K ≤ 1048576 := by omega
      have HGr2 := HGr.out htl'
      have HGr3 : Hid (∀ W rv B S k, k < K → Rw (w.heap.size + 1) W rv K 60 V B S → S k = ((V k).sh 1).s → w0.grownBy W none → Calls Tryz.prog 22 #[.pointer (some ⟨(B k).B, 0, none⟩)] W fun e w' => e = .returned (.tuple #[]) ∧ ∃ L, ((V k).sh 1).Least L ∧ OwnN w' (w.heap.size + 1) (.slice (some ⟨(B k).T, 0, none⟩) (V k).n (V k).n) (V k).n (((V k).sh 1).size L) ∧ Ch W w' [(B k).T]) := HGr2
      clear HGr HGr2
      have HLgF : Hid (∀ W rv B, Rw (w.heap.size + 1) W rv K 60 V B (fun k => ((V k).sh 1).s) → Calls Tryz.prog 21 #[rv] W fun e w' => e = .returned (.bool false) ∧ W.grownBy w' none) := fun W rv B hr => by
        have := HLg.out W rv B _ hr HLim0.out
        rw [decide_eq_false htl] at this
        exact this
      go_enter Tryz.func8, Tryz.ntmps8
      go_wp2_with (first
        | (go_at_call 20; rw [← hw0]; refine HTk.out.mono ?_; rintro e w1 ⟨g1, rv, B, rfl, hr⟩; obtain ⟨ar, cr, rfl, _, _, har⟩ := hr.slice; obtain ⟨R, rfl, _⟩ := har hK0; clear har)
        | (go_at_call 21; refine (HLgF.out _ _ _ hr).mono ?_; rintro e w2 ⟨rfl, g2⟩))
      have HR2 : Hid (Rw (w.heap.size + 1) w2 (.slice (some ⟨R, 0, none⟩) K cr) K 60 V B (fun k => ((V k).sh 1).s)) := hr.grow g2
      have HG2 : Hid (w0.grownBy w2 none) := grown_trans g1 g2
      clear hr g1 g2 HTk hw0
      go_loopw [45] (fun i wr => ∃ (k : Nat) (Ls : Nat → Nat → Bool), i = .int .i64 k ∧ k ≤ K ∧ (∀ j, j < k → ((V j).sh 1).Least (Ls j)) ∧ Rw (w.heap.size + 1) wr (.slice (some ⟨R, 0, none⟩) K cr) K 60 V B (fun j => if j < k then ((V j).sh 1).size (Ls j) else ((V j).sh 1).s) ∧ w0.grownBy wr none) (fun i _ => K - (intOf i).toNat)
      case atStart => exact ⟨0, fun _ _ => false, rfl, Nat.zero_le _, fun j hj => by omega, HR2.out.congr (fun j hj => by simp), HG2.out⟩
      case round =>
        obtain ⟨k, Ls, rfl, hk, hle, hrw, hg⟩ := hrel
        have HLe : Hid (∀ j, j < k → ((V j).sh 1).Least (Ls j)) := hle
        have HRw : Hid (Rw (w.heap.size + 1) wr (.slice (some ⟨R, 0, none⟩) K cr) K 60 V B (fun j => if j < k then ((V j).sh 1).size (Ls j) else ((V j).sh 1).s)) := hrw
        have HG : Hid (w0.grownBy wr none) := hg
        clear hle hg
        by_cases hkK : k < K
        · have hkK' : (k : Int) < K := by omega
          have ck : wr.cell? ⟨R, k, none⟩ = some (.pointer (some ⟨(B k).B, 0, none⟩)) := by
            obtain ⟨a', c', e, _, _, hh⟩ := hrw.slice
            simp at e
            obtain ⟨rfl, rfl⟩ := e
            obtain ⟨R', e', hc'⟩ := hh (by omega)
            simp at e'
            subst e'
            exact hc' k hkK
          have HGk := HGr3.out wr _ B _ k hkK hrw (by simp) HG.out
          have HGk2 : Hid (Calls Tryz.prog 22 #[.pointer (some ⟨(B k).B, 0, none⟩)] wr fun e w' => e = .returned (.tuple #[]) ∧ ∃ L, ((V k).sh 1).Least L ∧ OwnN w' (w.heap.size + 1) (.slice (some ⟨(B k).T, 0, none⟩) (V k).n (V k).n) (V k).n (((V k).sh 1).size L) ∧ Ch wr w' [(B k).T]) := HGk
          have hTk : w.heap.size + 1 ≤ (B k).T := (hrw.sz k hkK).base _ rfl
          clear hrw HGk
          go_wp2_with (go_at_call 22; refine HGk2.out.mono ?_; rintro e w3 ⟨rfl, L, hL, ho3, hc3⟩)
          have hR3 := HRw.out.one hkK hc3 ho3
          exact ⟨⟨k + 1, fun j => if j = k then L else Ls j, by go_num, by omega, fun j hj => by
            by_cases e : j = k
            · subst e; simp only [if_true]; exact hL
            · simp only [e, if_false]; exact HLe.out j (by omega), hR3.congr (fun j hj => by
              by_cases e : j = k
              · subst e; simp
              · by_cases h2 : j < k
                · simp [e, h2, show j < k + 1 by omega]
                · simp [e, h2, show ¬ j < k + 1 by omega]), ((Ch.of HG.out).trans hc3).nil (fun j hj => by simp at hj; omega)⟩, by simp [intOf]; omega⟩
        · obtain rfl : k = K := by omega
          have HR3 : Hid (Rw (w.heap.size + 1) wr (.slice (some ⟨R, 0, none⟩) k cr) k 60 V B (Lk.SS 1 V Ls)) := hrw.congr (fun j hj => by rw [if_pos hj]; rfl)
          have HLm : Hid (Lim k V (Lk.SS 1 V Ls)) := HLim.out Ls
          clear hrw HRw
          by_cases htf : 1048576 < Lk.pos (ends V (Lk.SS 1 V Ls)) k
          · go_wp2_with (go_at_call 21; refine (HLg.out _ _ _ _ HR3.out HLm.out).mono ?_; rintro e w2' ⟨rfl, g2⟩; rw [decide_eq_true htf]; obtain ⟨z0, z1, z2, z3, z4, zz⟩ := rowIs_five (rowIs_grown RZ.out (grown_trans HG.out g2)); have f0 := zz 0; have f1 := zz 1; have f2 := zz 2; have f3 := zz 3; have f4 := zz 4; clear zz)
            change bodyPost _ _ _ _ _ (put5 w2' w.heap.size (.int .i64 0) (.slice none 0 0) (.slice none 0 0) (.int .i64 0) (.slice none 0 0))
            obtain ⟨hgE, hrE⟩ := HEnd.out w2' (grown_trans HG.out g2) (.int .i64 0) (.slice none 0 0) (.slice none 0 0) (.int .i64 0) (.slice none 0 0)
            obtain ⟨q0, q1, q2, q3, q4, qz⟩ := rowIs_five hrE
            refine bodyPost_ret (by simp [results, Tryz.results8, go_sem, q0, q1, q2, q3, q4]; try rfl) rfl ?_
            exact ⟨hgE, Ls, HLe.out, .inl ⟨.inr htf, rfl⟩⟩
          · have htf' : Lk.pos (ends V (Lk.SS 1 V Ls)) k ≤ 1048576 := by omega
            go_wp2_with (first
              | (go_at_call 21; refine (HLg.out _ _ _ _ HR3.out HLm.out).mono ?_; rintro e w2' ⟨rfl, g2⟩; rw [decide_eq_false htf]; have HR4 : Hid (Rw (w.heap.size + 1) w2' (.slice (some ⟨R, 0, none⟩) k cr) k 60 V B (Lk.SS 1 V Ls)) := HR3.out.grow g2; have HG4 : Hid (w0.grownBy w2' none) := grown_trans HG.out g2; clear g2)
              | (go_at_call 23; refine (HPl.out _ _ _ _ HR4.out HLm.out).mono ?_; rintro e w5 ⟨rfl, ho5, g5⟩))
            have cF := ho5.cell he
            have HR5 : Hid (Rw (w.heap.size + 1) w5 (.slice (some ⟨R, 0, none⟩) k cr) k 60 V B (Lk.SS 1 V Ls)) := HR4.out.grow g5
            have HG5 : Hid (w0.grownBy w5 none) := grown_trans HG4.out g5
            have hT5 : w.heap.size < w2'.heap.size := by have := HG4.out.size; omega
            obtain ⟨TF, hTF⟩ : ∃ TF, TF = w2'.heap.size := ⟨_, rfl⟩
            rw [← hTF] at ho5 cF ⊢
            have HF5 : Hid (OwnN w5 TF (.slice (some ⟨TF, 0, none⟩) k k) k (Lk.pos (ends V (Lk.SS 1 V Ls)))) := ho5
            have hTFw : w.heap.size < TF := by omega
            clear hTF ho5 g5 HR3 HR4 HG4 hT5
            have HCoK : Hid (∀ W, w5.grownBy W none → Calls Tryz.prog 24 #[.slice (some ⟨R, 0, none⟩) k cr, .slice (some ⟨TF, 0, none⟩) k k] W fun e w' => ∃ v, e = .returned v ∧ OwnL w' W.heap.size v (Lk.codeA 1 V (Lk.SS 1 V Ls) k) ∧ W.grownBy w' none) := fun W g => HCo.out W _ B Ls TF TF (HR5.out.grow g) (HF5.out.grow g) HLe.out htf' (grown_trans HG5.out g)
            have HClK : Hid (∀ W, w5.grownBy W none → Calls Tryz.prog 25 #[.slice da dn dc] W fun e w' => ∃ v, e = .returned v ∧ OwnB w' W.heap.size v dn dg ∧ W.grownBy w' none) := fun W g => HCl.out (by omega) W (grown_trans HG5.out g)
            obtain ⟨CL, hCL⟩ : ∃ CL, CL = Lk.codeA 1 V (Lk.SS 1 V Ls) k := ⟨_, rfl⟩
            rw [← hCL] at HCoK
            have HCL : Hid (CL = Lk.codeA 1 V (Lk.SS 1 V Ls) k) := hCL
            obtain ⟨f, hf⟩ : ∃ f, f = Lk.pos (ends V (Lk.SS 1 V Ls)) en := ⟨_, rfl⟩
            rw [← hf] at cF
            have HFe : Hid (f = Lk.pos (ends V (Lk.SS 1 V Ls)) en) := hf
            have hne : ¬ k ≤ en := by omega
            have h5s : w.heap.size ≤ w5.heap.size := by have := HG5.out.size; omega
            clear hCL hf
            refine region_src 12 (psiK [.int .i64 1, .slice (some ⟨R, 0, none⟩) k cr, .slice (some ⟨TF, 0, none⟩) k k, undef, .slice da dn dc, undef, .slice (some ⟨TF, 0, none⟩) k k, .int .i64 (en : Int), .pointer (some ⟨TF, en, none⟩), .int .i64 f, .slice (some ⟨TF, 0, none⟩) k k] 1 f (.slice (some ⟨TF, 0, none⟩) k k) w5.heap.size CL dn dg) (by kernel_rfl) (by kernel_rfl) (by kernel_rfl) (by kernel_rfl) (fun i x w0 w1 hi h g => psiK_stable h g) ?_ ?_
            · simp only [List.take_succ_cons, List.take_zero]
              refine ⟨?_, ?_, ?_, ?_, ?_, ?_, ?_, ?_, ?_, ?_, ?_, ?_, trivial⟩
              · intro VV W0 AA g hV hs hz
                have gD : w5.grownBy W0 none := grown_trans (grown_drew (World.grownBy.refl _ none)) g
                have e00 := hz 0 (.int .i64 1) (by kernel_rfl) rfl
                clear hV hs hz
                refine outO_val (v := .int .i64 1) (w' := W0) ?_ (World.grownBy.refl _ _) (psiK_mf (by decide) (by decide) (by decide) rfl)
                simp [go_sem, e00]
              · intro VV W0 AA g hV hs hz
                have gD : w5.grownBy W0 none := grown_trans (grown_drew (World.grownBy.refl _ none)) g
                have e010 := hz 10 (.slice (some ⟨R, 0, none⟩) k cr) (by kernel_rfl) rfl
                clear hV hs hz
                refine outO_val (v := .slice (some ⟨R, 0, none⟩) k cr) (w' := W0) ?_ (World.grownBy.refl _ _) (psiK_mf (by decide) (by decide) (by decide) rfl)
                simp [go_sem, e010]
              · intro VV W0 AA g hV hs hz
                have gD : w5.grownBy W0 none := grown_trans (grown_drew (World.grownBy.refl _ none)) g
                have e014 := hz 14 (.slice (some ⟨TF, 0, none⟩) k k) (by kernel_rfl) rfl
                clear hV hs hz
                refine outO_val (v := .slice (some ⟨TF, 0, none⟩) k k) (w' := W0) ?_ (World.grownBy.refl _ _) (psiK_mf (by decide) (by decide) (by decide) rfl)
                simp [go_sem, e014]
              · intro VV W0 AA g hV hs hz
                have gD : w5.grownBy W0 none := grown_trans (grown_drew (World.grownBy.refl _ none)) g
                have q1 : VV 1 = .slice (some ⟨R, 0, none⟩) k cr := psiK_f (hV 1 (by kernel_rfl)) (by decide) (by decide) (by decide)
                have e1 := hs 61 1 (by kernel_rfl) (by kernel_rfl)
                have q2 : VV 2 = .slice (some ⟨TF, 0, none⟩) k k := psiK_f (hV 2 (by kernel_rfl)) (by decide) (by decide) (by decide)
                have e2 := hs 62 2 (by kernel_rfl) (by kernel_rfl)
                clear hV hs hz
                refine outO_call (f := 24) ?_ ((HCoK.out W0 gD).mono fun e w2 ⟨v, he, ho, hg⟩ => ⟨v, he, hg, OwnL.low ho (by have := g.size; exact this)⟩)
                simp [go_sem, q1, e1, q2, e2]
              · intro VV W0 AA g hV hs hz
                have gD : w5.grownBy W0 none := grown_trans (grown_drew (World.grownBy.refl _ none)) g
                have e02 := hz 2 (.slice da dn dc) (by kernel_rfl) rfl
                clear hV hs hz
                refine outO_val (v := .slice da dn dc) (w' := W0) ?_ (World.grownBy.refl _ _) (psiK_mf (by decide) (by decide) (by decide) rfl)
                simp [go_sem, e02]
              · intro VV W0 AA g hV hs hz
                have gD : w5.grownBy W0 none := grown_trans (grown_drew (World.grownBy.refl _ none)) g
                have q4 : VV 4 = .slice da dn dc := psiK_f (hV 4 (by kernel_rfl)) (by decide) (by decide) (by decide)
                have e4 := hs 64 4 (by kernel_rfl) (by kernel_rfl)
                clear hV hs hz
                refine outO_call (f := 25) ?_ ((HClK.out W0 gD).mono fun e w2 ⟨v, he, ho, hg⟩ => ⟨v, he, hg, World.ownsRow.mono ho (by have := g.size; exact this)⟩)
                simp [go_sem, q4, e4]
              · intro VV W0 AA g hV hs hz
                have gD : w5.grownBy W0 none := grown_trans (grown_drew (World.grownBy.refl _ none)) g
                have e014 := hz 14 (.slice (some ⟨TF, 0, none⟩) k k) (by kernel_rfl) rfl
                clear hV hs hz
                refine outO_val (v := .slice (some ⟨TF, 0, none⟩) k k) (w' := W0) ?_ (World.grownBy.refl _ _) (psiK_mf (by decide) (by decide) (by decide) rfl)
                simp [go_sem, e014]
              · intro VV W0 AA g hV hs hz
                have gD : w5.grownBy W0 none := grown_trans (grown_drew (World.grownBy.refl _ none)) g
                have e03 := hz 3 (.int .i64 (en : Int)) (by kernel_rfl) rfl
                clear hV hs hz
                refine outO_val (v := .int .i64 (en : Int)) (w' := W0) ?_ (World.grownBy.refl _ _) (psiK_mf (by decide) (by decide) (by decide) rfl)
                simp [go_sem, e03]
              · intro VV W0 AA g hV hs hz
                have gD : w5.grownBy W0 none := grown_trans (grown_drew (World.grownBy.refl _ none)) g
                have q6 : VV 6 = .slice (some ⟨TF, 0, none⟩) k k := psiK_f (hV 6 (by kernel_rfl)) (by decide) (by decide) (by decide)
                have e6 := hs 66 6 (by kernel_rfl) (by kernel_rfl)
                have q7 : VV 7 = .int .i64 (en : Int) := psiK_f (hV 7 (by kernel_rfl)) (by decide) (by decide) (by decide)
                have e7 := hs 67 7 (by kernel_rfl) (by kernel_rfl)
                clear hV hs hz
                refine outO_val (v := .pointer (some ⟨TF, en, none⟩)) (w' := W0) ?_ (World.grownBy.refl _ _) (psiK_mf (by decide) (by decide) (by decide) rfl)
                simp [go_sem, q6, e6, q7, e7, hne]
              · intro VV W0 AA g hV hs hz
                have gD : w5.grownBy W0 none := grown_trans (grown_drew (World.grownBy.refl _ none)) g
                have q8 : VV 8 = .pointer (some ⟨TF, en, none⟩) := psiK_f (hV 8 (by kernel_rfl)) (by decide) (by decide) (by decide)
                have e8 := hs 68 8 (by kernel_rfl) (by kernel_rfl)
                have x0 := gD.cell cF (by simp)
                clear hV hs hz
                refine outO_val (v := .int .i64 f) (w' := W0) ?_ (World.grownBy.refl _ _) (psiK_mf (by decide) (by decide) (by decide) rfl)
                simp [go_sem, q8, e8, x0]
              · intro VV W0 AA g hV hs hz
                have gD : w5.grownBy W0 none := grown_trans (grown_drew (World.grownBy.refl _ none)) g
                have e014 := hz 14 (.slice (some ⟨TF, 0, none⟩) k k) (by kernel_rfl) rfl
                clear hV hs hz
                refine outO_val (v := .slice (some ⟨TF, 0, none⟩) k k) (w' := W0) ?_ (World.grownBy.refl _ _) (psiK_mf (by decide) (by decide) (by decide) rfl)
                simp [go_sem, e014]
              · intro VV W0 AA g hV hs hz
                have gD : w5.grownBy W0 none := grown_trans (grown_drew (World.grownBy.refl _ none)) g
                have q0 : VV 0 = .int .i64 1 := psiK_f (hV 0 (by kernel_rfl)) (by decide) (by decide) (by decide)
                have e0 := hs 60 0 (by kernel_rfl) (by kernel_rfl)
                have q9 : VV 9 = .int .i64 f := psiK_f (hV 9 (by kernel_rfl)) (by decide) (by decide) (by decide)
                have e9 := hs 69 9 (by kernel_rfl) (by kernel_rfl)
                have q10 : VV 10 = .slice (some ⟨TF, 0, none⟩) k k := psiK_f (hV 10 (by kernel_rfl)) (by decide) (by decide) (by decide)
                have e10 := hs 70 10 (by kernel_rfl) (by kernel_rfl)
                have q3 : OwnL W0 w5.heap.size (VV 3) CL := hV 3 (by kernel_rfl)
                have q5 : OwnB W0 w5.heap.size (VV 5) dn dg := hV 5 (by kernel_rfl)
                obtain ⟨a3, c3, p3, _⟩ := (OwnL.toB q3).shape
                obtain ⟨a5, c5, p5, _⟩ := q5.shape
                have e3 := hs 63 3 (by kernel_rfl) (by kernel_rfl)
                have e5 := hs 65 5 (by kernel_rfl) (by kernel_rfl)
                clear hV hs hz
                refine outO_val (v := .agg #[.int .i64 1, VV 3, VV 5, .int .i64 f, .slice (some ⟨TF, 0, none⟩) k k]) (w' := W0) ?_ (World.grownBy.refl _ _) ⟨VV 3, VV 5, rfl, q3, q5⟩
                simp [go_sem, q0, e0, q9, e9, q10, e10, e3, e5, p3, p5]
            · intro VV W0 g hV
              have gD : w5.grownBy W0 none := grown_trans (grown_drew (World.grownBy.refl _ none)) g
              have h0 : VV 0 = .int .i64 1 := psiK_f (hV 0 (by decide)) (by decide) (by decide) (by decide)
              have h1 : VV 1 = .slice (some ⟨R, 0, none⟩) k cr := psiK_f (hV 1 (by decide)) (by decide) (by decide) (by decide)
              have h2 : VV 2 = .slice (some ⟨TF, 0, none⟩) k k := psiK_f (hV 2 (by decide)) (by decide) (by decide) (by decide)
              have h4 : VV 4 = .slice da dn dc := psiK_f (hV 4 (by decide)) (by decide) (by decide) (by decide)
              have h6 : VV 6 = .slice (some ⟨TF, 0, none⟩) k k := psiK_f (hV 6 (by decide)) (by decide) (by decide) (by decide)
              have h7 : VV 7 = .int .i64 (en : Int) := psiK_f (hV 7 (by decide)) (by decide) (by decide) (by decide)
              have h8 : VV 8 = .pointer (some ⟨TF, en, none⟩) := psiK_f (hV 8 (by decide)) (by decide) (by decide) (by decide)
              have h9 : VV 9 = .int .i64 f := psiK_f (hV 9 (by decide)) (by decide) (by decide) (by decide)
              have h10 : VV 10 = .slice (some ⟨TF, 0, none⟩) k k := psiK_f (hV 10 (by decide)) (by decide) (by decide) (by decide)
              obtain ⟨y3, h3⟩ : ∃ y, VV 3 = y := ⟨_, rfl⟩
              obtain ⟨y5, h5⟩ : ∃ y, VV 5 = y := ⟨_, rfl⟩
              obtain ⟨v3, v5, h11, o3, o5⟩ := hV 11 (by decide)
              obtain ⟨a3, c3, p3, _⟩ := (OwnL.toB o3).shape
              obtain ⟨a5, c5, p5, _⟩ := OwnB.shape o5
              subst p3
              subst p5
              have GW : w0.grownBy W0 none := grown_trans HG5.out gD
              have HO3 : Hid (OwnL W0 w5.heap.size (.slice a3 CL.length c3) CL) := o3
              have HO5 : Hid (OwnB W0 w5.heap.size (.slice a5 dn c5) dn dg) := o5
              have HF9 : Hid (OwnN W0 TF (.slice (some ⟨TF, 0, none⟩) k k) k (Lk.pos (ends V (Lk.SS 1 V Ls)))) := HF5.out.grow gD
              simp [frV, dstOf, Act.put, h0, h1, h2, h3, h4, h5, h6, h7, h8, h9, h10, h11]
              clear h0 h1 h2 h3 h4 h5 h6 h7 h8 h9 h10 h11 hV g gD o3 o5
              obtain ⟨z0, z1, z2, z3, z4, zz⟩ := rowIs_five (rowIs_grown RZ.out GW)
              have f0 := zz 0
              have f1 := zz 1
              have f2 := zz 2
              have f3 := zz 3
              have f4 := zz 4
              clear zz
              go_wp2_with fail
              change bodyPost _ _ _ _ _ (put5 W0 w.heap.size (.int .i64 1) (.slice a3 CL.length c3) (.slice a5 dn c5) (.int .i64 f) (.slice (some ⟨TF, 0, none⟩) k k))
              obtain ⟨hgE, hrE⟩ := HEnd.out W0 GW (.int .i64 1) (.slice a3 CL.length c3) (.slice a5 dn c5) (.int .i64 f) (.slice (some ⟨TF, 0, none⟩) k k)
              obtain ⟨q0, q1, q2, q3, q4, qz⟩ := rowIs_five hrE
              refine bodyPost_ret (by simp [results, Tryz.results8, go_sem, q0, q1, q2, q3, q4]; try rfl) rfl ?_
              have gP := grown_put5 W0 w.heap.size (.int .i64 1) (.slice a3 CL.length c3) (.slice a5 dn c5) (.int .i64 f) (.slice (some ⟨TF, 0, none⟩) k k)
              have hb5 : w.heap.size < w5.heap.size := by have := HG5.out.size; omega
              refine ⟨hgE, Ls, HLe.out, .inr ⟨by omega, htf', (.slice a3 CL.length c3), (.slice a5 dn c5), TF, by rw [← HFe.out], ?_, ?_, ?_⟩⟩
              · rw [← HCL.out]
                exact OwnL.low (OwnL.kept HO3.out gP (own_ne HO3.out hb5)) h5s
              · exact World.ownsRow.mono (World.ownsRow.kept HO5.out gP (own_ne HO5.out hb5)) h5s
              · exact (HF9.out.kept gP (.inr (by simp [Value.ownBlock]; omega))).low (Nat.le_of_lt hTFw)
set_option maxRecDepth 100000 in
set_option maxHeartbeats 4000000 in
theorem link_ec {w : World} {en : Int} {a da : Option Addr} {K c dn dc : Nat} {V : Nat → Lk.PcV} {A : Nat → PcA} (h : PcsIn w.heap.size w a K c V A) (hTab : TabAt w) (hK0 : 0 < K) (hK : K ≤ 33) (hn : ∀ k, k < K → ((V k).n : Int) ≤ 8796093022208) (he : en < 0 ∨ (K : Int) ≤ en) :
    Calls Tryz.prog 8 #[.int .i64 2, .slice a K c, .slice da dn dc, .int .i64 en] w fun e w' => e = .returned (.tuple #[.agg #[.int .i64 0, .slice none 0 0, .slice none 0 0, .int .i64 0, .slice none 0 0], .int .i64 60]) ∧ w.grownBy w' none := by
  have RZ : Hid ((w.alloc (Obj.cells #[.int .i64 0, .slice none 0 0, .slice none 0 0, .int .i64 0, .slice none 0 0] 32)).rowIs w.heap.size 32 5 (row5 (.int .i64 0) (.slice none 0 0) (.slice none 0 0) (.int .i64 0) (.slice none 0 0))) := row5_new _ _ _ _ _ _ _
  have hA := World.grownBy_alloc w (Obj.cells #[.int .i64 0, .slice none 0 0, .slice none 0 0, .int .i64 0, .slice none 0 0] 32) none
  have HT : Hid (Calls Tryz.prog 20 #[.int .i64 2, .slice a K c] (w.alloc (Obj.cells #[.int .i64 0, .slice none 0 0, .slice none 0 0, .int .i64 0, .slice none 0 0] 32)) fun e w' => (w.alloc (Obj.cells #[.int .i64 0, .slice none 0 0, .slice none 0 0, .int .i64 0, .slice none 0 0] 32)).grownBy w' none ∧ ∃ rv b, e = .returned (.tuple #[rv, .bool b])) :=
    (take_c (N := w.heap.size) (h.ch (l := []) (Ch.of hA) (by simp)) (hTab.kept hA (by simp)) hTab.1 hA.size hK0 hK hn).mono (by
      rintro e w' ⟨g, ⟨_, rv, B, rfl, _⟩ | ⟨_, rfl⟩⟩
      · exact ⟨g, rv, true, rfl⟩
      · exact ⟨g, _, false, rfl⟩)
  have HG : Hid (∀ w1, (w.alloc (Obj.cells #[.int .i64 0, .slice none 0 0, .slice none 0 0, .int .i64 0, .slice none 0 0] 32)).grownBy w1 none → w.grownBy (put5 w1 w.heap.size (.int .i64 0) (.slice none 0 0) (.slice none 0 0) (.int .i64 0) (.slice none 0 0)) none) := fun w1 g1 => grown_two (grown_trans (World.grownBy_alloc _ _ _) g1) (grown_put5 _ _ _ _ _ _ _) (Nat.le_refl _)
  clear h hTab hn hA
  rcases he with he | he
  all_goals
    go_enter Tryz.func8, Tryz.ntmps8
    go_wp2_with (go_at_call 20; refine HT.out.mono ?_; rintro e w1 ⟨g1, rv, b, rfl⟩; obtain ⟨z0, z1, z2, z3, z4, zz⟩ := rowIs_five (rowIs_grown RZ.out g1); have f0 := zz 0; have f1 := zz 1; have f2 := zz 2; have f3 := zz 3; have f4 := zz 4; clear zz; cases b)
    all_goals
      change bodyPost _ _ _ _ _ (put5 w1 w.heap.size (.int .i64 0) (.slice none 0 0) (.slice none 0 0) (.int .i64 0) (.slice none 0 0))
      obtain ⟨q0, q1, q2, q3, q4, qz⟩ := rowIs_five (row5_put (rowIs_grown RZ.out g1) (.int .i64 0) (.slice none 0 0) (.slice none 0 0) (.int .i64 0) (.slice none 0 0))
      refine bodyPost_ret (by simp [results, Tryz.results8, go_sem, q0, q1, q2, q3, q4]; try rfl) rfl ?_
      exact ⟨rfl, HG.out w1 g1⟩
set_option maxRecDepth 100000 in
set_option maxHeartbeats 32000000 in
theorem link_c {w : World} {a da : Option Addr} {K c dn dc en : Nat} {V : Nat → Lk.PcV} {A : Nat → PcA} {dg : Nat → Int} (h : PcsIn w.heap.size w a K c V A) (hTab : TabAt w) (hK0 : 0 < K) (hK : K ≤ 33) (hn : ∀ k, k < K → ((V k).n : Int) ≤ 8796093022208) (hB : Lk.piecesB 2 K V = true) (he : en < K)
    (hd0 : da = none → dn = 0 ∧ dc = 0) (hd : Bs w da dn dg) (hdl : ∀ b off, 0 < dn → da = some ⟨b, off, none⟩ → b < w.heap.size) (hdn : (dn : Int) ≤ 9223372036854775807) :
    Calls Tryz.prog 8 #[.int .i64 2, .slice a K c, .slice da dn dc, .int .i64 en] w fun e w' => w.grownBy w' none ∧ ∃ Ls, (∀ k, k < K → ((V k).sh 2).Least (Ls k)) ∧ LkRes 2 K V Ls dn dg en w e w' := by
  have hok : ∀ k, k < K → (V k).Ok 2 K := fun k hk => Lk.PcV.ok_of (Lk.piecesB_iff.1 hB k hk).1 (Lk.piecesB_iff.1 hB k hk).2
  have hrng : ∀ k, k < K → ∀ i, i < (V k).n → InRng ((V k).I i) := fun k hk i hi => by
    obtain ⟨b, off, _, _, hp⟩ := h.at hk
    exact hp.ins.rng i hi
  have hL0 : ∀ k, ∃ L, k < K → ((V k).sh 2).Least L := fun k => by
    by_cases hk : k < K
    · obtain ⟨L, hL⟩ := (hok k hk).sh.least
      exact ⟨L, fun _ => hL⟩
    · exact ⟨fun _ => false, fun h => absurd h hk⟩
  have hA := World.grownBy_alloc w (Obj.cells #[.int .i64 0, .slice none 0 0, .slice none 0 0, .int .i64 0, .slice none 0 0] 32) none
  have RZ : Hid ((w.alloc (Obj.cells #[.int .i64 0, .slice none 0 0, .slice none 0 0, .int .i64 0, .slice none 0 0] 32)).rowIs w.heap.size 32 5 (row5 (.int .i64 0) (.slice none 0 0) (.slice none 0 0) (.int .i64 0) (.slice none 0 0))) := row5_new _ _ _ _ _ _ _
  obtain ⟨w0, hw0⟩ : ∃ w0, w0 = w.alloc (Obj.cells #[.int .i64 0, .slice none 0 0, .slice none 0 0, .int .i64 0, .slice none 0 0] 32) := ⟨_, rfl⟩
  have hsz : w0.heap.size = w.heap.size + 1 := by rw [hw0]; simp
  have hN0 : w.heap.size + 1 ≤ w0.heap.size := Nat.le_of_eq hsz.symm
  rw [← hw0] at hA RZ
  have HTk : Hid (Calls Tryz.prog 20 #[.int .i64 2, .slice a K c] w0 fun e w' => w0.grownBy w' none ∧ ∃ rv B, e = .returned (.tuple #[rv, .bool true]) ∧ Rw (w.heap.size + 1) w' rv K 61 V B (fun k => ((V k).sh 2).s)) :=
    (take_c (N := w.heap.size + 1) ((h.ch (l := []) (Ch.of hA) (by simp)).up (Nat.le_succ _)) (hTab.kept hA (by simp)) (by have := hTab.1; omega) hN0 hK0 hK hn).mono (by
      rintro e w' ⟨g, ⟨_, rv, B, rfl, hr⟩ | ⟨hf, _⟩⟩
      · exact ⟨g, rv, B, rfl, hr⟩
      · rw [hB] at hf; cases hf)
  have hlim : ∀ Ls : Nat → Nat → Bool, Lim K V (fun k => ((V k).sh 2).size (Ls k)) := fun Ls => ⟨hn, fun k hk i hi => by have := Lk.size_le (hok k hk) (Ls k) hi; show 0 ≤ ((V k).sh 2).size (Ls k) i ∧ ((V k).sh 2).size (Ls k) i ≤ 40; omega⟩
  have hs0 : (fun k => ((V k).sh 2).size (fun _ => false)) = (fun k => ((V k).sh 2).s) := by funext k i; unfold Lk.Sh.size; simp
  have hlim0 : Lim K V (fun k => ((V k).sh 2).s) := by rw [← hs0]; exact hlim (fun _ _ => false)
  have HLg : Hid (∀ W rv B S, Rw (w.heap.size + 1) W rv K 61 V B S → Lim K V S → Calls Tryz.prog 21 #[rv] W fun e w' => e = .returned (.bool (decide (1048576 < Lk.pos (ends V S) K))) ∧ W.grownBy w' none) := fun W rv B S hr hl => large_any hr hl hK
  have HPl : Hid (∀ W rv B S, Rw (w.heap.size + 1) W rv K 61 V B S → Lim K V S → Calls Tryz.prog 23 #[rv] W fun e w' => e = .returned (.tuple #[.slice (some ⟨W.heap.size, 0, none⟩) K K, .int .i64 (Lk.pos (ends V S) K)]) ∧ OwnN w' W.heap.size (.slice (some ⟨W.heap.size, 0, none⟩) K K) K (Lk.pos (ends V S)) ∧ W.grownBy w' none) := fun W rv B S hr hl => rplaces_any hr hl hK
  have hmono : ∀ Ls : Nat → Nat → Bool, Lk.pos (ends V (fun k => ((V k).sh 2).s)) K ≤ Lk.pos (ends V (Lk.SS 2 V Ls)) K := fun Ls => by
    have := Lk.pos_le (s := ends V (fun k => ((V k).sh 2).s)) (s' := ends V (Lk.SS 2 V Ls)) (Nat.zero_le K) (fun k _ hk => by
      have := Lk.pos_le (s := ((V k).sh 2).s) (s' := Lk.SS 2 V Ls k) (Nat.zero_le (V k).n) (fun i _ hi => by
        show ((V k).sh 2).s i ≤ ((V k).sh 2).size (Ls k) i
        unfold Lk.Sh.size
        split
        · next hh => exact (hok k hk).sh.le i hi (by simp at hh; exact hh.1)
        · exact Int.le_refl _)
      have e0 : ∀ s : Nat → Int, Lk.pos s 0 = 0 := fun _ => rfl
      rw [e0, e0] at this
      show Lk.pos ((V k).sh 2).s (V k).n ≤ Lk.pos (Lk.SS 2 V Ls k) (V k).n
      omega)
    have e0 : ∀ s : Nat → Int, Lk.pos s 0 = 0 := fun _ => rfl
    rw [e0, e0] at this
    omega
  have HTw : Hid (∀ W, w0.grownBy W none → TabAt W) := fun W g => (hTab.kept hA (by simp)).kept g (by simp)
  have hTN := hTab.1
  obtain ⟨Ls0, hLs0⟩ : ∃ Ls0 : Nat → Nat → Bool, ∀ k, k < K → ((V k).sh 2).Least (Ls0 k) := ⟨fun k => Classical.choose (hL0 k), fun k hk => Classical.choose_spec (hL0 k) hk⟩
  have HGr : Hid (Lk.pos (ends V (fun k => ((V k).sh 2).s)) K ≤ 1048576 → ∀ W rv B S k, k < K → Rw (w.heap.size + 1) W rv K 61 V B S → S k = ((V k).sh 2).s → w0.grownBy W none → Calls Tryz.prog 22 #[.pointer (some ⟨(B k).B, 0, none⟩)] W fun e w' => e = .returned (.tuple #[]) ∧ ∃ L, ((V k).sh 2).Least L ∧ OwnN w' (w.heap.size + 1) (.slice (some ⟨(B k).T, 0, none⟩) (V k).n (V k).n) (V k).n (((V k).sh 2).size L) ∧ Ch W w' [(B k).T]) := fun hmx W rv B S k hk hr hS hg => by
    have hs : ∀ j, j < K → ∀ i, i < (V j).n → 1 ≤ ((V j).sh 2).s i ∧ ((V j).sh 2).s i ≤ 33 := fun j hj i hi => by
      have := Lk.size_le (hok j hj) (fun _ => false) hi
      have e : ((V j).sh 2).size (fun _ => false) i = ((V j).sh 2).s i := by unfold Lk.Sh.size; simp
      rw [e] at this
      exact this
    have hc := Lk.pos_count (s := ((V k).sh 2).s) (Nat.zero_le (V k).n) (fun i _ hi => (hs k hk i hi).1)
    have e0 : ∀ s : Nat → Int, Lk.pos s 0 = 0 := fun _ => rfl
    have hp0 : ∀ j, j < K → 0 ≤ ends V (fun k => ((V k).sh 2).s) j := fun j hj => by
      have := Lk.pos_mono (s := ((V j).sh 2).s) (Nat.zero_le (V j).n) (fun i _ hi => by have := (hs j hj i hi).1; omega)
      rw [e0] at this
      exact this
    have h1 := Lk.pos_mono (s := ends V (fun k => ((V k).sh 2).s)) (Nat.zero_le k) (fun j _ hj => hp0 j (by omega))
    have h2 := Lk.pos_mono (s := ends V (fun k => ((V k).sh 2).s)) (a := k + 1) (b := K) (by omega) (fun j _ hj => hp0 j hj)
    have h3 : Lk.pos (ends V (fun k => ((V k).sh 2).s)) (k + 1) = Lk.pos (ends V (fun k => ((V k).sh 2).s)) k + Lk.pos ((V k).sh 2).s (V k).n := rfl
    rw [e0] at hc h1
    have hoo := hr.sz k hk
    rw [hS] at hoo
    obtain ⟨cur, hcur⟩ := hoo.blk
    refine pgrow_c (hr.pt k hk) (HTw.out W hg) (by omega) hoo (fun e => ?_) (hok k hk) (by omega) (fun i hi => by have := hs k hk i hi; omega)
    have := (hr.pt k hk).blk
    rw [e, hcur] at this
    simp at this
  have HCo : Hid (∀ W rv B Ls TF bF, Rw (w.heap.size + 1) W rv K 61 V B (Lk.SS 2 V Ls) → OwnN W bF (.slice (some ⟨TF, 0, none⟩) K K) K (Lk.pos (ends V (Lk.SS 2 V Ls))) → (∀ k, k < K → ((V k).sh 2).Least (Ls k)) → Lk.pos (ends V (Lk.SS 2 V Ls)) K ≤ 1048576 → w0.grownBy W none → Calls Tryz.prog 24 #[rv, .slice (some ⟨TF, 0, none⟩) K K] W fun e w' => ∃ v, e = .returned v ∧ OwnL w' W.heap.size v (Lk.codeA 2 V (Lk.SS 2 V Ls) K) ∧ W.grownBy w' none) := fun W rv B Ls TF bF hr hF hl hm hg =>
    code_c hr hF ⟨hok, hl, hrng, hm⟩ (HTw.out W hg) (by omega) (by have := hg.size; omega) hK
  have HCl : Hid (dn ≤ 1048576 → ∀ W, w0.grownBy W none → Calls Tryz.prog 25 #[.slice da dn dc] W fun e w' => ∃ v, e = .returned v ∧ OwnB w' W.heap.size v dn dg ∧ W.grownBy w' none) := fun hle W hg => by
    refine sclone_any dn dc da dg W (by omega) hd0 ?_
    rcases Nat.eq_zero_or_pos dn with h0 | h0
    · exact .inl h0
    · obtain ⟨b, o, e, hc⟩ := hd.at h0
      exact .inr ⟨b, o, e, fun i hi => (grown_trans hA hg).cell (hc i hi) (by simp)⟩
  have HLim : Hid (∀ Ls : Nat → Nat → Bool, Lim K V (fun k => ((V k).sh 2).size (Ls k))) := hlim
  have HLim0 : Hid (Lim K V (fun k => ((V k).sh 2).s)) := hlim0
  have HMo : Hid (∀ Ls : Nat → Nat → Bool, Lk.pos (ends V (fun k => ((V k).sh 2).s)) K ≤ Lk.pos (ends V (Lk.SS 2 V Ls)) K) := hmono
  have HLs0 : Hid (∀ k, k < K → ((V k).sh 2).Least (Ls0 k)) := hLs0
  have HA : Hid (w.grownBy w0 none) := hA
  have HEnd : Hid (∀ W, w0.grownBy W none → ∀ v0 v1 v2 v3 v4, w.grownBy (put5 W w.heap.size v0 v1 v2 v3 v4) none ∧ (put5 W w.heap.size v0 v1 v2 v3 v4).rowIs w.heap.size 32 5 (row5 v0 v1 v2 v3 v4)) := fun W g v0 v1 v2 v3 v4 => ⟨grown_two (grown_trans hA g) (grown_put5 _ _ _ _ _ _ _) (Nat.le_refl _), row5_put (rowIs_grown RZ.out g) _ _ _ _ _⟩
  have hK' : (K : Int) ≤ 33 := by omega
  have hK0' : (0 : Int) < K := by omega
  have he' : (en : Int) < K := by omega
  have HW0 : Hid (w0 = w.alloc (Obj.cells #[.int .i64 0, .slice none 0 0, .slice none 0 0, .int .i64 0, .slice none 0 0] 32)) := hw0
  have hb0 : w.heap.size < w0.heap.size := by omega
  have hb1 : w0.heap.size ≤ w.heap.size + 1 := by omega
  clear h hTab hn hB hd0 hd hdl hok hrng hL0 hA hlim hlim0 hs0 hmono hLs0 hsz
  by_cases hdb : 1048576 < dn
  · have hdb' : (1048576 : Int) < dn := by omega
    go_enter Tryz.func8, Tryz.ntmps8
    go_wp2_with (go_at_call 20; rw [← hw0]; refine HTk.out.mono ?_; rintro e w1 ⟨g1, rv, B, rfl, hr⟩; obtain ⟨z0, z1, z2, z3, z4, zz⟩ := rowIs_five (rowIs_grown RZ.out g1); have f0 := zz 0; have f1 := zz 1; have f2 := zz 2; have f3 := zz 3; have f4 := zz 4; clear zz)
    change bodyPost _ _ _ _ _ (put5 w1 w.heap.size (.int .i64 0) (.slice none 0 0) (.slice none 0 0) (.int .i64 0) (.slice none 0 0))
    obtain ⟨hgE, hrE⟩ := HEnd.out w1 g1 (.int .i64 0) (.slice none 0 0) (.slice none 0 0) (.int .i64 0) (.slice none 0 0)
    obtain ⟨q0, q1, q2, q3, q4, qz⟩ := rowIs_five hrE
    refine bodyPost_ret (by simp [results, Tryz.results8, go_sem, q0, q1, q2, q3, q4]; try rfl) rfl ?_
    exact ⟨hgE, Ls0, HLs0.out, .inl ⟨.inl hdb, rfl⟩⟩
  · have hdb' : (dn : Int) ≤ 1048576 := by omega
    by_cases htl : 1048576 < Lk.pos (ends V (fun k => ((V k).sh 2).s)) K
    · go_enter Tryz.func8, Tryz.ntmps8
      go_wp2_with (first
        | (go_at_call 20; rw [← hw0]; refine HTk.out.mono ?_; rintro e w1 ⟨g1, rv, B, rfl, hr⟩)
        | (go_at_call 21; refine (HLg.out _ _ _ _ hr HLim0.out).mono ?_; rintro e w2 ⟨rfl, g2⟩; rw [decide_eq_true htl]; obtain ⟨z0, z1, z2, z3, z4, zz⟩ := rowIs_five (rowIs_grown RZ.out (grown_trans g1 g2)); have f0 := zz 0; have f1 := zz 1; have f2 := zz 2; have f3 := zz 3; have f4 := zz 4; clear zz))
      change bodyPost _ _ _ _ _ (put5 w2 w.heap.size (.int .i64 0) (.slice none 0 0) (.slice none 0 0) (.int .i64 0) (.slice none 0 0))
      obtain ⟨hgE, hrE⟩ := HEnd.out w2 (grown_trans g1 g2) (.int .i64 0) (.slice none 0 0) (.slice none 0 0) (.int .i64 0) (.slice none 0 0)
      obtain ⟨q0, q1, q2, q3, q4, qz⟩ := rowIs_five hrE
      refine bodyPost_ret (by simp [results, Tryz.results8, go_sem, q0, q1, q2, q3, q4]; try rfl) rfl ?_
      exact ⟨hgE, Ls0, HLs0.out, .inl ⟨.inr (by have := HMo.out Ls0; omega), rfl⟩⟩
    · have htl' : Lk.pos (ends V (fun k => ((V k).sh 2).s)) K ≤ 1048576 := by omega
      have HGr2 := HGr.out htl'
      have HGr3 : Hid (∀ W rv B S k, k < K → Rw (w.heap.size + 1) W rv K 61 V B S → S k = ((V k).sh 2).s → w0.grownBy W none → Calls Tryz.prog 22 #[.pointer (some ⟨(B k).B, 0, none⟩)] W fun e w' => e = .returned (.tuple #[]) ∧ ∃ L, ((V k).sh 2).Least L ∧ OwnN w' (w.heap.size + 1) (.slice (some ⟨(B k).T, 0, none⟩) (V k).n (V k).n) (V k).n (((V k).sh 2).size L) ∧ Ch W w' [(B k).T]) := HGr2
      clear HGr HGr2
      have HLgF : Hid (∀ W rv B, Rw (w.heap.size + 1) W rv K 61 V B (fun k => ((V k).sh 2).s) → Calls Tryz.prog 21 #[rv] W fun e w' => e = .returned (.bool false) ∧ W.grownBy w' none) := fun W rv B hr => by
        have := HLg.out W rv B _ hr HLim0.out
        rw [decide_eq_false htl] at this
        exact this
      go_enter Tryz.func8, Tryz.ntmps8
      go_wp2_with (first
        | (go_at_call 20; rw [← hw0]; refine HTk.out.mono ?_; rintro e w1 ⟨g1, rv, B, rfl, hr⟩; obtain ⟨ar, cr, rfl, _, _, har⟩ := hr.slice; obtain ⟨R, rfl, _⟩ := har hK0; clear har)
        | (go_at_call 21; refine (HLgF.out _ _ _ hr).mono ?_; rintro e w2 ⟨rfl, g2⟩))
      have HR2 : Hid (Rw (w.heap.size + 1) w2 (.slice (some ⟨R, 0, none⟩) K cr) K 61 V B (fun k => ((V k).sh 2).s)) := hr.grow g2
      have HG2 : Hid (w0.grownBy w2 none) := grown_trans g1 g2
      clear hr g1 g2 HTk hw0
      go_loopw [45] (fun i wr => ∃ (k : Nat) (Ls : Nat → Nat → Bool), i = .int .i64 k ∧ k ≤ K ∧ (∀ j, j < k → ((V j).sh 2).Least (Ls j)) ∧ Rw (w.heap.size + 1) wr (.slice (some ⟨R, 0, none⟩) K cr) K 61 V B (fun j => if j < k then ((V j).sh 2).size (Ls j) else ((V j).sh 2).s) ∧ w0.grownBy wr none) (fun i _ => K - (intOf i).toNat)
      case atStart => exact ⟨0, fun _ _ => false, rfl, Nat.zero_le _, fun j hj => by omega, HR2.out.congr (fun j hj => by simp), HG2.out⟩
      case round =>
        obtain ⟨k, Ls, rfl, hk, hle, hrw, hg⟩ := hrel
        have HLe : Hid (∀ j, j < k → ((V j).sh 2).Least (Ls j)) := hle
        have HRw : Hid (Rw (w.heap.size + 1) wr (.slice (some ⟨R, 0, none⟩) K cr) K 61 V B (fun j => if j < k then ((V j).sh 2).size (Ls j) else ((V j).sh 2).s)) := hrw
        have HG : Hid (w0.grownBy wr none) := hg
        clear hle hg
        by_cases hkK : k < K
        · have hkK' : (k : Int) < K := by omega
          have ck : wr.cell? ⟨R, k, none⟩ = some (.pointer (some ⟨(B k).B, 0, none⟩)) := by
            obtain ⟨a', c', e, _, _, hh⟩ := hrw.slice
            simp at e
            obtain ⟨rfl, rfl⟩ := e
            obtain ⟨R', e', hc'⟩ := hh (by omega)
            simp at e'
            subst e'
            exact hc' k hkK
          have HGk := HGr3.out wr _ B _ k hkK hrw (by simp) HG.out
          have HGk2 : Hid (Calls Tryz.prog 22 #[.pointer (some ⟨(B k).B, 0, none⟩)] wr fun e w' => e = .returned (.tuple #[]) ∧ ∃ L, ((V k).sh 2).Least L ∧ OwnN w' (w.heap.size + 1) (.slice (some ⟨(B k).T, 0, none⟩) (V k).n (V k).n) (V k).n (((V k).sh 2).size L) ∧ Ch wr w' [(B k).T]) := HGk
          have hTk : w.heap.size + 1 ≤ (B k).T := (hrw.sz k hkK).base _ rfl
          clear hrw HGk
          go_wp2_with (go_at_call 22; refine HGk2.out.mono ?_; rintro e w3 ⟨rfl, L, hL, ho3, hc3⟩)
          have hR3 := HRw.out.one hkK hc3 ho3
          exact ⟨⟨k + 1, fun j => if j = k then L else Ls j, by go_num, by omega, fun j hj => by
            by_cases e : j = k
            · subst e; simp only [if_true]; exact hL
            · simp only [e, if_false]; exact HLe.out j (by omega), hR3.congr (fun j hj => by
              by_cases e : j = k
              · subst e; simp
              · by_cases h2 : j < k
                · simp [e, h2, show j < k + 1 by omega]
                · simp [e, h2, show ¬ j < k + 1 by omega]), ((Ch.of HG.out).trans hc3).nil (fun j hj => by simp at hj; omega)⟩, by simp [intOf]; omega⟩
        · obtain rfl : k = K := by omega
          have HR3 : Hid (Rw (w.heap.size + 1) wr (.slice (some ⟨R, 0, none⟩) k cr) k 61 V B (Lk.SS 2 V Ls)) := hrw.congr (fun j hj => by rw [if_pos hj]; rfl)
          have HLm : Hid (Lim k V (Lk.SS 2 V Ls)) := HLim.out Ls
          clear hrw HRw
          by_cases htf : 1048576 < Lk.pos (ends V (Lk.SS 2 V Ls)) k
          · go_wp2_with (go_at_call 21; refine (HLg.out _ _ _ _ HR3.out HLm.out).mono ?_; rintro e w2' ⟨rfl, g2⟩; rw [decide_eq_true htf]; obtain ⟨z0, z1, z2, z3, z4, zz⟩ := rowIs_five (rowIs_grown RZ.out (grown_trans HG.out g2)); have f0 := zz 0; have f1 := zz 1; have f2 := zz 2; have f3 := zz 3; have f4 := zz 4; clear zz)
            change bodyPost _ _ _ _ _ (put5 w2' w.heap.size (.int .i64 0) (.slice none 0 0) (.slice none 0 0) (.int .i64 0) (.slice none 0 0))
            obtain ⟨hgE, hrE⟩ := HEnd.out w2' (grown_trans HG.out g2) (.int .i64 0) (.slice none 0 0) (.slice none 0 0) (.int .i64 0) (.slice none 0 0)
            obtain ⟨q0, q1, q2, q3, q4, qz⟩ := rowIs_five hrE
            refine bodyPost_ret (by simp [results, Tryz.results8, go_sem, q0, q1, q2, q3, q4]; try rfl) rfl ?_
            exact ⟨hgE, Ls, HLe.out, .inl ⟨.inr htf, rfl⟩⟩
          · have htf' : Lk.pos (ends V (Lk.SS 2 V Ls)) k ≤ 1048576 := by omega
            go_wp2_with (first
              | (go_at_call 21; refine (HLg.out _ _ _ _ HR3.out HLm.out).mono ?_; rintro e w2' ⟨rfl, g2⟩; rw [decide_eq_false htf]; have HR4 : Hid (Rw (w.heap.size + 1) w2' (.slice (some ⟨R, 0, none⟩) k cr) k 61 V B (Lk.SS 2 V Ls)) := HR3.out.grow g2; have HG4 : Hid (w0.grownBy w2' none) := grown_trans HG.out g2; clear g2)
              | (go_at_call 23; refine (HPl.out _ _ _ _ HR4.out HLm.out).mono ?_; rintro e w5 ⟨rfl, ho5, g5⟩))
            have cF := ho5.cell he
            have HR5 : Hid (Rw (w.heap.size + 1) w5 (.slice (some ⟨R, 0, none⟩) k cr) k 61 V B (Lk.SS 2 V Ls)) := HR4.out.grow g5
            have HG5 : Hid (w0.grownBy w5 none) := grown_trans HG4.out g5
            have hT5 : w.heap.size < w2'.heap.size := by have := HG4.out.size; omega
            obtain ⟨TF, hTF⟩ : ∃ TF, TF = w2'.heap.size := ⟨_, rfl⟩
            rw [← hTF] at ho5 cF ⊢
            have HF5 : Hid (OwnN w5 TF (.slice (some ⟨TF, 0, none⟩) k k) k (Lk.pos (ends V (Lk.SS 2 V Ls)))) := ho5
            have hTFw : w.heap.size < TF := by omega
            clear hTF ho5 g5 HR3 HR4 HG4 hT5
            have HCoK : Hid (∀ W, w5.grownBy W none → Calls Tryz.prog 24 #[.slice (some ⟨R, 0, none⟩) k cr, .slice (some ⟨TF, 0, none⟩) k k] W fun e w' => ∃ v, e = .returned v ∧ OwnL w' W.heap.size v (Lk.codeA 2 V (Lk.SS 2 V Ls) k) ∧ W.grownBy w' none) := fun W g => HCo.out W _ B Ls TF TF (HR5.out.grow g) (HF5.out.grow g) HLe.out htf' (grown_trans HG5.out g)
            have HClK : Hid (∀ W, w5.grownBy W none → Calls Tryz.prog 25 #[.slice da dn dc] W fun e w' => ∃ v, e = .returned v ∧ OwnB w' W.heap.size v dn dg ∧ W.grownBy w' none) := fun W g => HCl.out (by omega) W (grown_trans HG5.out g)
            obtain ⟨CL, hCL⟩ : ∃ CL, CL = Lk.codeA 2 V (Lk.SS 2 V Ls) k := ⟨_, rfl⟩
            rw [← hCL] at HCoK
            have HCL : Hid (CL = Lk.codeA 2 V (Lk.SS 2 V Ls) k) := hCL
            obtain ⟨f, hf⟩ : ∃ f, f = Lk.pos (ends V (Lk.SS 2 V Ls)) en := ⟨_, rfl⟩
            rw [← hf] at cF
            have HFe : Hid (f = Lk.pos (ends V (Lk.SS 2 V Ls)) en) := hf
            have hne : ¬ k ≤ en := by omega
            have h5s : w.heap.size ≤ w5.heap.size := by have := HG5.out.size; omega
            clear hCL hf
            refine region_src 12 (psiK [.int .i64 2, .slice (some ⟨R, 0, none⟩) k cr, .slice (some ⟨TF, 0, none⟩) k k, undef, .slice da dn dc, undef, .slice (some ⟨TF, 0, none⟩) k k, .int .i64 (en : Int), .pointer (some ⟨TF, en, none⟩), .int .i64 f, .slice (some ⟨TF, 0, none⟩) k k] 2 f (.slice (some ⟨TF, 0, none⟩) k k) w5.heap.size CL dn dg) (by kernel_rfl) (by kernel_rfl) (by kernel_rfl) (by kernel_rfl) (fun i x w0 w1 hi h g => psiK_stable h g) ?_ ?_
            · simp only [List.take_succ_cons, List.take_zero]
              refine ⟨?_, ?_, ?_, ?_, ?_, ?_, ?_, ?_, ?_, ?_, ?_, ?_, trivial⟩
              · intro VV W0 AA g hV hs hz
                have gD : w5.grownBy W0 none := grown_trans (grown_drew (World.grownBy.refl _ none)) g
                have e00 := hz 0 (.int .i64 2) (by kernel_rfl) rfl
                clear hV hs hz
                refine outO_val (v := .int .i64 2) (w' := W0) ?_ (World.grownBy.refl _ _) (psiK_mf (by decide) (by decide) (by decide) rfl)
                simp [go_sem, e00]
              · intro VV W0 AA g hV hs hz
                have gD : w5.grownBy W0 none := grown_trans (grown_drew (World.grownBy.refl _ none)) g
                have e010 := hz 10 (.slice (some ⟨R, 0, none⟩) k cr) (by kernel_rfl) rfl
                clear hV hs hz
                refine outO_val (v := .slice (some ⟨R, 0, none⟩) k cr) (w' := W0) ?_ (World.grownBy.refl _ _) (psiK_mf (by decide) (by decide) (by decide) rfl)
                simp [go_sem, e010]
              · intro VV W0 AA g hV hs hz
                have gD : w5.grownBy W0 none := grown_trans (grown_drew (World.grownBy.refl _ none)) g
                have e014 := hz 14 (.slice (some ⟨TF, 0, none⟩) k k) (by kernel_rfl) rfl
                clear hV hs hz
                refine outO_val (v := .slice (some ⟨TF, 0, none⟩) k k) (w' := W0) ?_ (World.grownBy.refl _ _) (psiK_mf (by decide) (by decide) (by decide) rfl)
                simp [go_sem, e014]
              · intro VV W0 AA g hV hs hz
                have gD : w5.grownBy W0 none := grown_trans (grown_drew (World.grownBy.refl _ none)) g
                have q1 : VV 1 = .slice (some ⟨R, 0, none⟩) k cr := psiK_f (hV 1 (by kernel_rfl)) (by decide) (by decide) (by decide)
                have e1 := hs 61 1 (by kernel_rfl) (by kernel_rfl)
                have q2 : VV 2 = .slice (some ⟨TF, 0, none⟩) k k := psiK_f (hV 2 (by kernel_rfl)) (by decide) (by decide) (by decide)
                have e2 := hs 62 2 (by kernel_rfl) (by kernel_rfl)
                clear hV hs hz
                refine outO_call (f := 24) ?_ ((HCoK.out W0 gD).mono fun e w2 ⟨v, he, ho, hg⟩ => ⟨v, he, hg, OwnL.low ho (by have := g.size; exact this)⟩)
                simp [go_sem, q1, e1, q2, e2]
              · intro VV W0 AA g hV hs hz
                have gD : w5.grownBy W0 none := grown_trans (grown_drew (World.grownBy.refl _ none)) g
                have e02 := hz 2 (.slice da dn dc) (by kernel_rfl) rfl
                clear hV hs hz
                refine outO_val (v := .slice da dn dc) (w' := W0) ?_ (World.grownBy.refl _ _) (psiK_mf (by decide) (by decide) (by decide) rfl)
                simp [go_sem, e02]
              · intro VV W0 AA g hV hs hz
                have gD : w5.grownBy W0 none := grown_trans (grown_drew (World.grownBy.refl _ none)) g
                have q4 : VV 4 = .slice da dn dc := psiK_f (hV 4 (by kernel_rfl)) (by decide) (by decide) (by decide)
                have e4 := hs 64 4 (by kernel_rfl) (by kernel_rfl)
                clear hV hs hz
                refine outO_call (f := 25) ?_ ((HClK.out W0 gD).mono fun e w2 ⟨v, he, ho, hg⟩ => ⟨v, he, hg, World.ownsRow.mono ho (by have := g.size; exact this)⟩)
                simp [go_sem, q4, e4]
              · intro VV W0 AA g hV hs hz
                have gD : w5.grownBy W0 none := grown_trans (grown_drew (World.grownBy.refl _ none)) g
                have e014 := hz 14 (.slice (some ⟨TF, 0, none⟩) k k) (by kernel_rfl) rfl
                clear hV hs hz
                refine outO_val (v := .slice (some ⟨TF, 0, none⟩) k k) (w' := W0) ?_ (World.grownBy.refl _ _) (psiK_mf (by decide) (by decide) (by decide) rfl)
                simp [go_sem, e014]
              · intro VV W0 AA g hV hs hz
                have gD : w5.grownBy W0 none := grown_trans (grown_drew (World.grownBy.refl _ none)) g
                have e03 := hz 3 (.int .i64 (en : Int)) (by kernel_rfl) rfl
                clear hV hs hz
                refine outO_val (v := .int .i64 (en : Int)) (w' := W0) ?_ (World.grownBy.refl _ _) (psiK_mf (by decide) (by decide) (by decide) rfl)
                simp [go_sem, e03]
              · intro VV W0 AA g hV hs hz
                have gD : w5.grownBy W0 none := grown_trans (grown_drew (World.grownBy.refl _ none)) g
                have q6 : VV 6 = .slice (some ⟨TF, 0, none⟩) k k := psiK_f (hV 6 (by kernel_rfl)) (by decide) (by decide) (by decide)
                have e6 := hs 66 6 (by kernel_rfl) (by kernel_rfl)
                have q7 : VV 7 = .int .i64 (en : Int) := psiK_f (hV 7 (by kernel_rfl)) (by decide) (by decide) (by decide)
                have e7 := hs 67 7 (by kernel_rfl) (by kernel_rfl)
                clear hV hs hz
                refine outO_val (v := .pointer (some ⟨TF, en, none⟩)) (w' := W0) ?_ (World.grownBy.refl _ _) (psiK_mf (by decide) (by decide) (by decide) rfl)
                simp [go_sem, q6, e6, q7, e7, hne]
              · intro VV W0 AA g hV hs hz
                have gD : w5.grownBy W0 none := grown_trans (grown_drew (World.grownBy.refl _ none)) g
                have q8 : VV 8 = .pointer (some ⟨TF, en, none⟩) := psiK_f (hV 8 (by kernel_rfl)) (by decide) (by decide) (by decide)
                have e8 := hs 68 8 (by kernel_rfl) (by kernel_rfl)
                have x0 := gD.cell cF (by simp)
                clear hV hs hz
                refine outO_val (v := .int .i64 f) (w' := W0) ?_ (World.grownBy.refl _ _) (psiK_mf (by decide) (by decide) (by decide) rfl)
                simp [go_sem, q8, e8, x0]
              · intro VV W0 AA g hV hs hz
                have gD : w5.grownBy W0 none := grown_trans (grown_drew (World.grownBy.refl _ none)) g
                have e014 := hz 14 (.slice (some ⟨TF, 0, none⟩) k k) (by kernel_rfl) rfl
                clear hV hs hz
                refine outO_val (v := .slice (some ⟨TF, 0, none⟩) k k) (w' := W0) ?_ (World.grownBy.refl _ _) (psiK_mf (by decide) (by decide) (by decide) rfl)
                simp [go_sem, e014]
              · intro VV W0 AA g hV hs hz
                have gD : w5.grownBy W0 none := grown_trans (grown_drew (World.grownBy.refl _ none)) g
                have q0 : VV 0 = .int .i64 2 := psiK_f (hV 0 (by kernel_rfl)) (by decide) (by decide) (by decide)
                have e0 := hs 60 0 (by kernel_rfl) (by kernel_rfl)
                have q9 : VV 9 = .int .i64 f := psiK_f (hV 9 (by kernel_rfl)) (by decide) (by decide) (by decide)
                have e9 := hs 69 9 (by kernel_rfl) (by kernel_rfl)
                have q10 : VV 10 = .slice (some ⟨TF, 0, none⟩) k k := psiK_f (hV 10 (by kernel_rfl)) (by decide) (by decide) (by decide)
                have e10 := hs 70 10 (by kernel_rfl) (by kernel_rfl)
                have q3 : OwnL W0 w5.heap.size (VV 3) CL := hV 3 (by kernel_rfl)
                have q5 : OwnB W0 w5.heap.size (VV 5) dn dg := hV 5 (by kernel_rfl)
                obtain ⟨a3, c3, p3, _⟩ := (OwnL.toB q3).shape
                obtain ⟨a5, c5, p5, _⟩ := q5.shape
                have e3 := hs 63 3 (by kernel_rfl) (by kernel_rfl)
                have e5 := hs 65 5 (by kernel_rfl) (by kernel_rfl)
                clear hV hs hz
                refine outO_val (v := .agg #[.int .i64 2, VV 3, VV 5, .int .i64 f, .slice (some ⟨TF, 0, none⟩) k k]) (w' := W0) ?_ (World.grownBy.refl _ _) ⟨VV 3, VV 5, rfl, q3, q5⟩
                simp [go_sem, q0, e0, q9, e9, q10, e10, e3, e5, p3, p5]
            · intro VV W0 g hV
              have gD : w5.grownBy W0 none := grown_trans (grown_drew (World.grownBy.refl _ none)) g
              have h0 : VV 0 = .int .i64 2 := psiK_f (hV 0 (by decide)) (by decide) (by decide) (by decide)
              have h1 : VV 1 = .slice (some ⟨R, 0, none⟩) k cr := psiK_f (hV 1 (by decide)) (by decide) (by decide) (by decide)
              have h2 : VV 2 = .slice (some ⟨TF, 0, none⟩) k k := psiK_f (hV 2 (by decide)) (by decide) (by decide) (by decide)
              have h4 : VV 4 = .slice da dn dc := psiK_f (hV 4 (by decide)) (by decide) (by decide) (by decide)
              have h6 : VV 6 = .slice (some ⟨TF, 0, none⟩) k k := psiK_f (hV 6 (by decide)) (by decide) (by decide) (by decide)
              have h7 : VV 7 = .int .i64 (en : Int) := psiK_f (hV 7 (by decide)) (by decide) (by decide) (by decide)
              have h8 : VV 8 = .pointer (some ⟨TF, en, none⟩) := psiK_f (hV 8 (by decide)) (by decide) (by decide) (by decide)
              have h9 : VV 9 = .int .i64 f := psiK_f (hV 9 (by decide)) (by decide) (by decide) (by decide)
              have h10 : VV 10 = .slice (some ⟨TF, 0, none⟩) k k := psiK_f (hV 10 (by decide)) (by decide) (by decide) (by decide)
              obtain ⟨y3, h3⟩ : ∃ y, VV 3 = y := ⟨_, rfl⟩
              obtain ⟨y5, h5⟩ : ∃ y, VV 5 = y := ⟨_, rfl⟩
              obtain ⟨v3, v5, h11, o3, o5⟩ := hV 11 (by decide)
              obtain ⟨a3, c3, p3, _⟩ := (OwnL.toB o3).shape
              obtain ⟨a5, c5, p5, _⟩ := OwnB.shape o5
              subst p3
              subst p5
              have GW : w0.grownBy W0 none := grown_trans HG5.out gD
              have HO3 : Hid (OwnL W0 w5.heap.size (.slice a3 CL.length c3) CL) := o3
              have HO5 : Hid (OwnB W0 w5.heap.size (.slice a5 dn c5) dn dg) := o5
              have HF9 : Hid (OwnN W0 TF (.slice (some ⟨TF, 0, none⟩) k k) k (Lk.pos (ends V (Lk.SS 2 V Ls)))) := HF5.out.grow gD
              simp [frV, dstOf, Act.put, h0, h1, h2, h3, h4, h5, h6, h7, h8, h9, h10, h11]
              clear h0 h1 h2 h3 h4 h5 h6 h7 h8 h9 h10 h11 hV g gD o3 o5
              obtain ⟨z0, z1, z2, z3, z4, zz⟩ := rowIs_five (rowIs_grown RZ.out GW)
              have f0 := zz 0
              have f1 := zz 1
              have f2 := zz 2
              have f3 := zz 3
              have f4 := zz 4
              clear zz
              go_wp2_with fail
              change bodyPost _ _ _ _ _ (put5 W0 w.heap.size (.int .i64 2) (.slice a3 CL.length c3) (.slice a5 dn c5) (.int .i64 f) (.slice (some ⟨TF, 0, none⟩) k k))
              obtain ⟨hgE, hrE⟩ := HEnd.out W0 GW (.int .i64 2) (.slice a3 CL.length c3) (.slice a5 dn c5) (.int .i64 f) (.slice (some ⟨TF, 0, none⟩) k k)
              obtain ⟨q0, q1, q2, q3, q4, qz⟩ := rowIs_five hrE
              refine bodyPost_ret (by simp [results, Tryz.results8, go_sem, q0, q1, q2, q3, q4]; try rfl) rfl ?_
              have gP := grown_put5 W0 w.heap.size (.int .i64 2) (.slice a3 CL.length c3) (.slice a5 dn c5) (.int .i64 f) (.slice (some ⟨TF, 0, none⟩) k k)
              have hb5 : w.heap.size < w5.heap.size := by have := HG5.out.size; omega
              refine ⟨hgE, Ls, HLe.out, .inr ⟨by omega, htf', (.slice a3 CL.length c3), (.slice a5 dn c5), TF, by rw [← HFe.out], ?_, ?_, ?_⟩⟩
              · rw [← HCL.out]
                exact OwnL.low (OwnL.kept HO3.out gP (own_ne HO3.out hb5)) h5s
              · exact World.ownsRow.mono (World.ownsRow.kept HO5.out gP (own_ne HO5.out hb5)) h5s
              · exact (HF9.out.kept gP (.inr (by simp [Value.ownBlock]; omega))).low (Nat.le_of_lt hTFw)
end Go.Proofs.YtkiockffejlnhaaGreatDoor

/- Arguments that came in, opened: how large they are. -/
namespace Go.Proofs.YtkiockffejlnhaaGreatDoor
open Go.RowKit
set_option linter.unusedVariables false
def Fits {H : Type} (t : TypeId) (d : DataW H) : Prop := ∀ n ∈ d.weights Tryz.prog t, n ≤ reachBytes
theorem weights_all {H : Type} {e : TypeId} : ∀ {l : List (DataW H)} {d : DataW H}, d ∈ l → ∀ n ∈ d.weights Tryz.prog e, n ∈ DataW.weightsAll Tryz.prog e l
  | d0 :: l, d, hd, n, hn => by
    simp only [DataW.weightsAll, List.mem_append]
    rcases List.mem_cons.1 hd with rfl | h
    · exact .inl hn
    · exact .inr (weights_all h n hn)
theorem Fits.len {H : Type} {t e : TypeId} {l r : List (DataW H)} (ht : Tryz.prog.underlying t = some (.slice e)) (h : Fits t (.slice l r)) (hb : 0 < Tryz.prog.bytesOf e) : l.length ≤ reachBytes := by
  have := h ((l.length + r.length) * Tryz.prog.bytesOf e) (by simp [DataW.weights, ht])
  refine Nat.le_trans ?_ this
  exact Nat.le_trans (Nat.le_add_right _ _) (Nat.le_mul_of_pos_right _ hb)
theorem Fits.elem {H : Type} {t e : TypeId} {l r : List (DataW H)} {d : DataW H} (ht : Tryz.prog.underlying t = some (.slice e)) (h : Fits t (.slice l r)) (hd : d ∈ l) : Fits e d := fun n hn =>
  h n (by simp only [DataW.weights, ht, List.mem_cons, List.mem_append]; exact .inr (.inl (weights_all hd n hn)))
theorem Fits.field {H : Type} {t : TypeId} {fs : Array Field} {xs : List (DataW H × List MemPlace)} {q : List MemPlace} {x y : DataW H × List MemPlace} {i : Nat} {f : Field} (ht : Tryz.prog.underlying t = some (.struct fs)) (h : Fits t x.1) (hx : x = (.agg (xs.map (·.1)), q)) (hf : fs[i]? = some f) (hy : xs[i]? = some y) : Fits f.type y.1 := fun n hn =>
  h n (by
    subst hx
    simp only [DataW.weights, ht]
    exact DataW.weights_mem_each (j := i) (t := f.type) (d := y.1) (by simp [hf]) (by simp [hy]) n hn)
theorem slice_fits {t e : TypeId} {H : Type} {enc : TypeId × Value → H} {W : World} {spare : Nat → Bool} {held : Bool} {fuel : Nat} {cs : List Value} {x : DataW H × List MemPlace}
    (ht : Tryz.prog.underlying t = some (.slice e)) (hb : 0 < Tryz.prog.bytesOf e) (hs : Fits t x.1) (h : DataW.trod enc Tryz.prog W 0 spare held fuel t cs = some x) {a : Option Addr} {len cap : Nat} (hc : cs = [.slice a len cap]) : len ≤ reachBytes := by
  rcases Go.Deep.open_slice ht h with ⟨hcs, _⟩ | ⟨a', len', cap', m, n, D, Pl, hcs, _, hl, hm, hmm, hx, _⟩
  · rw [hc] at hcs
    simp at hcs
    obtain ⟨_, rfl, _⟩ := hcs
    exact Nat.zero_le _
  · rw [hc] at hcs
    simp at hcs
    obtain ⟨_, rfl, _⟩ := hcs
    rw [hx] at hs
    have := Fits.len ht hs hb
    simpa using this
end Go.Proofs.YtkiockffejlnhaaGreatDoor

/- Rows that came in, opened. -/
namespace Go.Proofs.YtkiockffejlnhaaGreatDoor
open Go.RowKit
set_option linter.unusedVariables false
theorem addr_add (b off n : Nat) : (⟨b, off, none⟩ : Addr).add n = ⟨b, off + n, none⟩ := by simp [Addr.add]
structure RowB {α : Type} (c by' : Nat) (Q : World → Nat → Nat → α → Prop) (W : World) (a : Option Addr) (len cap : Nat) (V : Nat → α) : Prop where
  nil : a = none → len = 0 ∧ cap = 0
  le : len ≤ cap
  max : cap ≤ maxLen
  fits : len * by' ≤ reachBytes
  bs : len = 0 ∨ ∃ b off, a = some ⟨b, off, none⟩ ∧ b < W.heap.size ∧ ∀ i, i < len → Q W b (off + i * c) (V i)
theorem Fits.lenB {H : Type} {t e : TypeId} {l r : List (DataW H)} (ht : Tryz.prog.underlying t = some (.slice e)) (h : Fits t (.slice l r)) : l.length * Tryz.prog.bytesOf e ≤ reachBytes := by
  have := h ((l.length + r.length) * Tryz.prog.bytesOf e) (by simp [DataW.weights, ht])
  exact Nat.le_trans (Nat.mul_le_mul_right _ (Nat.le_add_right _ _)) this
theorem open_rowB {α : Type} {t e : TypeId} {c by' : Nat} {H : Type} {enc : TypeId × Value → H} {W : World} {spare : Nat → Bool} {held : Bool} {fuel : Nat} {cs : List Value} {x : DataW H × List MemPlace} (dflt : α) (Q : World → Nat → Nat → α → Prop)
    (ht : Tryz.prog.underlying t = some (.slice e)) (hc : Tryz.prog.cellsOf e = c) (c0 : 0 < c) (hby : Tryz.prog.bytesOf e = by') (hs : Fits t x.1)
    (each : ∀ (n : Nat) (cs : List Value) (b o : Nat) (y : DataW H × List MemPlace), cs.length = c → b < W.heap.size → (∀ j v, cs[j]? = some v → W.cell? ⟨b, o + j, none⟩ = some v) → DataW.trod enc Tryz.prog W 0 spare held n e cs = some y → Fits e y.1 → ∃ z : α, Q W b o z)
    (h : DataW.trod enc Tryz.prog W 0 spare held fuel t cs = some x) : ∃ a len cap V, cs = [.slice a len cap] ∧ RowB c by' Q W a len cap V := by
  rcases Go.Deep.open_slice ht h with ⟨hcs, _⟩ | ⟨a', len, cap, m, n, D, Pl, hcs, hb, hl, hm, hmm, hxx, hx⟩
  · exact ⟨none, 0, 0, fun _ => dflt, hcs, fun _ => ⟨rfl, rfl⟩, Nat.le_refl _, Nat.zero_le _, by simp, .inl rfl⟩
  · have hlm : len ≤ m := by rw [hmm]; split <;> omega
    rw [hxx] at hs
    have hfl : len * by' ≤ reachBytes := by have := Fits.lenB ht hs; rw [hby] at this; simpa using this
    by_cases h0 : len = 0
    · exact ⟨_, _, _, fun _ => dflt, hcs, (fun h => by cases h), hl, hm, hfl, .inl h0⟩
    obtain ⟨b, off, spot⟩ := a'
    have h00 : spot = none ∧ b < W.heap.size := by
      obtain ⟨cs', h1, h2⟩ := hx 0 (by omega)
      rw [hc] at h1
      obtain ⟨_, hlen, hcell⟩ := World.cells?_some h1
      have k0 := hcell 0 (by omega)
      obtain ⟨v, hv⟩ : ∃ v, W.cell? ⟨b, off, spot⟩ = some v := by
        have : W.cell? ⟨b, off, spot⟩ = cs'[0]? := by simpa [Addr.add] using k0
        rw [List.getElem?_eq_getElem (by omega)] at this
        exact ⟨_, this⟩
      exact ⟨World.cell?_spot hv, World.block_lt_of_cell? _ _ hv⟩
    obtain ⟨rfl, hlt⟩ := h00
    have each' : ∀ i, i < len → ∃ z : α, Q W b (off + i * c) z := by
      intro i hi
      obtain ⟨cs', h1, h2⟩ := hx i (by omega)
      rw [hc] at h1
      obtain ⟨_, hlen, hcell⟩ := World.cells?_some h1
      refine each n cs' b (off + i * c) _ hlen hlt (fun j v hv => ?_) h2 (Fits.elem ht hs (List.mem_map.2 ⟨i, List.mem_range.2 hi, rfl⟩))
      have hj : j < c := by rw [← hlen]; exact (List.getElem?_eq_some_iff.1 hv).1
      have k := hcell j hj
      rw [addr_add, addr_add] at k
      exact k.trans hv
    have : ∃ V : Nat → α, ∀ i, i < len → Q W b (off + i * c) (V i) :=
      ⟨fun i => if hi : i < len then Classical.choose (each' i hi) else dflt, fun i hi => by simp only [dif_pos hi]; exact Classical.choose_spec (each' i hi)⟩
    obtain ⟨V, hV⟩ := this
    exact ⟨_, _, _, V, hcs, (fun h => by cases h), hl, hm, hfl, .inr ⟨b, off, rfl, hlt, hV⟩⟩
def NumC (W : World) (b o : Nat) (z : Int) : Prop := W.cell? ⟨b, o, none⟩ = some (.int .i64 z)
theorem open_nums {H : Type} {enc : TypeId × Value → H} {W : World} {spare : Nat → Bool} {held : Bool} {fuel : Nat} {cs : List Value} {x : DataW H × List MemPlace}
    (h : DataW.trod enc Tryz.prog W 0 spare held fuel 30 cs = some x) (hs : Fits 30 x.1) : ∃ a len cap V, cs = [.slice a len cap] ∧ RowB 1 8 NumC W a len cap V := by
  refine open_rowB 0 NumC Tryz.underlying30 (c := 1) (by kernel_rfl) (by decide) (by kernel_rfl) hs (fun n cs b o y hl hb hc hy hz => ?_) h
  obtain ⟨z, e, _, f⟩ := DataW.trod_int Tryz.underlying3 hy
  subst e
  exact ⟨z, hc 0 _ rfl⟩
theorem RowB.num {W : World} {a : Option Addr} {len cap : Nat} {V : Nat → Int} (h : RowB 1 8 NumC W a len cap V) : NumIn W.heap.size W a len cap V :=
  ⟨h.le, h.max, by
    rcases h.bs with h0 | ⟨b, off, e, hl, hq⟩
    · exact .inl h0
    · exact .inr ⟨b, off, e, hl, fun i hi => by have := hq i hi; rw [Nat.mul_one] at this; exact this⟩⟩
end Go.Proofs.YtkiockffejlnhaaGreatDoor

/- Copies of rows of numbers. -/
namespace Go.Proofs.YtkiockffejlnhaaGreatDoor
open Go.RowKit
set_option linter.unusedVariables false
def IntB (w : World) (b : Nat) : Prop := ∃ cur, w.heap[b]? = some (.cells cur 3 (0, 0))
theorem IntB.lt {w : World} {b : Nat} (h : IntB w b) : b < w.heap.size := by obtain ⟨cur, h⟩ := h; exact (Array.getElem?_eq_some_iff.1 h).1
theorem IntB.ch {w w' : World} {b : Nat} {l : List Nat} (h : IntB w b) (hg : Ch w w' l) (hb : b ∉ l) : IntB w' b := by
  have hl := h.lt
  obtain ⟨cur, h⟩ := h
  exact ⟨cur, (hg.block b hl hb).trans h⟩
theorem NumIn.grow {N : Nat} {w w' : World} {a : Option Addr} {n c : Nat} {M : Nat → Int} (h : NumIn N w a n c M) (hg : w.grownBy w' none) : NumIn N w' a n c M := h.ch (l := []) (Ch.of hg) (by simp)
theorem OwnZ.numIn {w : World} {base : Nat} {v : Value} {l : List Int} {M : Nat → Int} {n : Nat} (h : OwnZ w base v l) (hn : l.length = n) (hM : ∀ i, i < n → l.getD i 0 = M i) : ∃ a c, v = .slice a n c ∧ NumIn w.heap.size w a n c M := by
  subst hn
  obtain ⟨a, c, rfl, h1, h2, h3⟩ := h.slice
  refine ⟨a, c, rfl, h1, h2, ?_⟩
  by_cases h0 : l.length = 0
  · exact .inl h0
  · obtain ⟨T, rfl, _, hT⟩ := h3 (by omega)
    exact .inr ⟨T, 0, rfl, hT, fun i hi => by rw [Nat.zero_add, ← hM i hi]; exact h.n.cell hi⟩
theorem NumIn.ch2 {N : Nat} {w w' : World} {a : Option Addr} {n c : Nat} {M : Nat → Int} {l : List Nat} (h : NumIn N w a n c M) (hg : Ch w w' l) (hl : ∀ b o, a = some ⟨b, o, none⟩ → b ∉ l) : NumIn N w' a n c M :=
  ⟨h.le, h.max, by
    rcases h.lie with h0 | ⟨b, off, e, hb, hi⟩
    · exact .inl h0
    · exact .inr ⟨b, off, e, hb, fun i hi' => hg.cell (hi i hi') (hl b off e)⟩⟩
theorem cells_new {w : World} (c : Array Value) (t : TypeId) {b : Nat} (hb : b = w.heap.size) (j : Nat) : (w.alloc (.cells c t)).cell? ⟨b, j, none⟩ = c[j]? := by subst hb; exact World.cell?_alloc_new _ _ _ _
theorem fzs_new {w : World} (c : Array Value) (t : TypeId) {b : Nat} (hb : b = w.heap.size) (j : Nat) : (w.alloc (.cells c t)).frozen? ⟨b, j, none⟩ = false := by subst hb; simp
set_option maxRecDepth 100000 in
set_option maxHeartbeats 4000000 in
theorem copyNums_any {N : Nat} {w : World} {a : Option Addr} {n c : Nat} {M : Nat → Int} (h : NumIn N w a n c M) (hz : a = none → n = 0 ∧ c = 0) (hf : n * 8 ≤ reachBytes) :
    Calls Tryz.prog 37 #[.slice a n c] w fun e w' => ∃ a' c', e = .returned (.slice a' n c') ∧ NumIn w'.heap.size w' a' n c' M ∧ (a' = none → n = 0 ∧ c' = 0) ∧ (∀ b o, a' = some ⟨b, o, none⟩ → w.heap.size ≤ b ∧ IntB w' b) ∧ w.grownBy w' none := by
  obtain ⟨i, hi, hz0, hz1, hz2⟩ := info_parts info_int
  have hf' : n * 8 ≤ 140737488351232 := hf
  have hle := h.le
  have hmx := h.max
  have hmx' := h.max
  unfold maxLen at hmx
  cases a with
  | none =>
    obtain ⟨rfl, rfl⟩ := hz rfl
    go_enter Tryz.func37, Tryz.ntmps37
    go_wp2_with (at_builtin; refine wpList_append_own_none rfl _ _ 30 rfl w.heap.size 3 i 1 Tryz.underlying30 hi (.slice none 0 0) 0 [] rfl (World.ownsRow_nil _ _ _ _) rfl ?_)
    go_ret
    exact ⟨none, 0, rfl, ⟨Nat.le_refl _, Nat.zero_le _, .inl rfl⟩, fun _ => by simp, (fun b o e => by cases e), World.grownBy.refl _ _⟩
  | some ad =>
    have HL : Hid (∀ j u, (((List.range n).map M).map (Value.int .i64))[j]? = some u → w.cell? (ad.add j) = some u) := by
      intro j u hj
      have hjn : j < n := by have := (List.getElem?_eq_some_iff.1 hj).1; simpa using this
      obtain ⟨b, off, e, _, hc⟩ := h.at hjn
      injection e with e
      subst e
      rw [addr_add, hc, ← hj]
      simp [hjn]
    have hl : (((List.range n).map M).map (Value.int .i64)).length = n * 1 := by simp
    have h1c : ∀ u ∈ ((List.range n).map M).map (Value.int .i64), u.oneCell' = true := by intro y hy; obtain ⟨z, _, rfl⟩ := List.mem_map.mp hy; rfl
    obtain ⟨Z, hZ⟩ : ∃ Z, Z = ((List.range n).map M).map (Value.int .i64) := ⟨_, rfl⟩
    rw [← hZ] at HL hl h1c
    have HZ : Hid (Z = ((List.range n).map M).map (Value.int .i64)) := hZ
    clear h hZ hz
    go_enter Tryz.func37, Tryz.ntmps37
    go_wp2_with (at_builtin; refine wpList_append_own _ rfl _ _ 30 rfl w.heap.size 3 i (.int .i64 0) 1 8 Tryz.underlying30 hi hz0 hz1 hz2 rfl (by decide) (.slice none 0 0) 0 [] rfl (World.ownsRow_nil _ _ _ _) ad n c Z rfl hl HL.out h1c (by unfold maxLen; omega) (by omega) (Nat.le_refl _) ?_; intro v' w2 ho2 hg2 hv2)
    go_ret
    have ho : OwnZ w2 w.heap.size v' ((List.range n).map M) := by
      unfold OwnZ
      rw [List.length_map, List.length_range, ← HZ.out]
      simpa using ho2
    obtain ⟨a', c', rfl, hN⟩ := ho.numIn (M := M) (n := n) (by simp) (fun i hi => by simp [List.getD_eq_getElem?_getD, hi])
    refine ⟨a', c', rfl, hN, fun e => ?_, fun b o e => ?_, hg2⟩
    rotate_left
    · subst e
      rcases ho.2 with ⟨e, h0⟩ | ⟨T5, c5, cur, e, hb5, hg5, _⟩
      · cases e
      · injection e with e1 e2 e3
        injection e1 with e1
        injection e1 with e1
        subst e1
        exact ⟨hb5, cur, hg5⟩
    subst e
    rcases ho.2 with ⟨e, h0⟩ | ⟨T5, c5, cur, e, _⟩
    · injection e with e1 e2 e3
      exact ⟨by simpa using h0, e3⟩
    · cases e
end Go.Proofs.YtkiockffejlnhaaGreatDoor

/- Asks of layer 6 that came in, opened. -/
namespace Go.Proofs.YtkiockffejlnhaaGreatDoor
open Go.RowKit
set_option linter.unusedVariables false
theorem frozenK {w w' : World} {l : List Nat} (h : Ch w w' l) {b k : Nat} (hlt : b < w.heap.size) (hb : b ∉ l) (hf : w.frozen? ⟨b, k, none⟩ = false) : w'.frozen? ⟨b, k, none⟩ = false := by
  have := h.block b hlt hb
  simp only [World.frozen?] at hf ⊢
  rw [this]
  exact hf
def InQ (W : World) (b o : Nat) (v : InV) : Prop := InAt W b o v ∧ InRng v
set_option maxRecDepth 100000 in
theorem open_ins {H : Type} {enc : TypeId × Value → H} {W : World} {spare : Nat → Bool} {held : Bool} {fuel : Nat} {cs : List Value} {x : DataW H × List MemPlace}
    (h : DataW.trod enc Tryz.prog W 0 spare held fuel 46 cs = some x) (hs : Fits 46 x.1) : ∃ a len cap V, cs = [.slice a len cap] ∧ RowB 9 72 InQ W a len cap V := by
  have c3 : Tryz.prog.cellsOf 3 = 1 := by kernel_rfl
  have c2 : Tryz.prog.cellsOf 2 = 1 := by kernel_rfl
  refine open_rowB zeroI InQ Tryz.underlying46 (c := 9) (by kernel_rfl) (by decide) (by kernel_rfl) hs (fun n cs b o y hl hb hc hy hz => ?_) h
  obtain ⟨xs, kk, hk, hxy, _, hxl, hf⟩ := DataW.trod_struct Tryz.underlying50 hy
  match xs, hxl, cs, hl with
  | [z0, z1, z2, z3, z4, z5, z6, z7, z8], _, [v0, v1, v2, v3, v4, v5, v6, v7, v8], _ =>
    have g0 := hf 0 _ rfl
    have g1 := hf 1 _ rfl
    have g2 := hf 2 _ rfl
    have g3 := hf 3 _ rfl
    have g4 := hf 4 _ rfl
    have g5 := hf 5 _ rfl
    have g6 := hf 6 _ rfl
    have g7 := hf 7 _ rfl
    have g8 := hf 8 _ rfl
    simp [c3, c2] at g0 g1 g2 g3 g4 g5 g6 g7 g8
    obtain ⟨n0, e0, _, f0⟩ := DataW.trod_int Tryz.underlying3 g0
    obtain ⟨n1, e1, _, f1⟩ := DataW.trod_int Tryz.underlying3 g1
    obtain ⟨n2, e2, _, f2⟩ := DataW.trod_int Tryz.underlying3 g2
    obtain ⟨n3, e3, _, f3⟩ := DataW.trod_int Tryz.underlying3 g3
    obtain ⟨n4, e4, _, f4⟩ := DataW.trod_int Tryz.underlying3 g4
    obtain ⟨n5, e5, _, f5⟩ := DataW.trod_int Tryz.underlying3 g5
    obtain ⟨n6, e6, _, f6⟩ := DataW.trod_int Tryz.underlying3 g6
    obtain ⟨n7, e7, _, f7⟩ := DataW.trod_int Tryz.underlying2 g7
    obtain ⟨n8, e8, _, f8⟩ := DataW.trod_int Tryz.underlying3 g8
    simp at e0 e1 e2 e3 e4 e5 e6 e7 e8
    subst e0 e1 e2 e3 e4 e5 e6 e7 e8
    have f6 := bounds_i64 f6
    have f7 := bounds_i64 f7
    exact ⟨⟨n0, n1, n2, n3, n4, n5, n6, n7, n8⟩, ⟨hc 0 _ rfl, hc 1 _ rfl, hc 2 _ rfl, hc 3 _ rfl, hc 4 _ rfl, hc 5 _ rfl, hc 6 _ rfl, hc 7 _ rfl, hc 8 _ rfl⟩, by constructor <;> dsimp only <;> omega⟩
theorem RowB.ins {W : World} {a : Option Addr} {len cap : Nat} {V : Nat → InV} (h : RowB 9 72 InQ W a len cap V) : InsIn W.heap.size W a len cap V := by
  refine ⟨h.le, h.max, ?_, ?_⟩
  · rcases h.bs with h0 | ⟨b, off, e, hl, hq⟩
    · exact .inl h0
    · exact .inr ⟨b, off, e, hl, fun i hi => (hq i hi).1⟩
  · rcases h.bs with h0 | ⟨b, off, e, hl, hq⟩
    · exact fun i hi => by omega
    · exact fun i hi => (hq i hi).2
structure PcQ (W : World) (b o : Nat) (x : Lk.PcV × PcA) : Prop where
  pa : PcAt W.heap.size W b o x.1 x.2
  iz : x.2.ia = none → x.1.n = 0 ∧ x.2.ic = 0
  mz : x.2.ma = none → x.1.m = 0 ∧ x.2.mc = 0
  ib : x.1.n * 72 ≤ reachBytes
  mb : x.1.m * 8 ≤ reachBytes
set_option maxRecDepth 100000 in
theorem open_pieces {H : Type} {enc : TypeId × Value → H} {W : World} {spare : Nat → Bool} {held : Bool} {fuel : Nat} {cs : List Value} {x : DataW H × List MemPlace}
    (h : DataW.trod enc Tryz.prog W 0 spare held fuel 23 cs = some x) (hs : Fits 23 x.1) : ∃ a len cap V, cs = [.slice a len cap] ∧ RowB 3 56 PcQ W a len cap V := by
  have c1 : Tryz.prog.cellsOf 46 = 1 := by kernel_rfl
  have c2 : Tryz.prog.cellsOf 30 = 1 := by kernel_rfl
  have c3 : Tryz.prog.cellsOf 3 = 1 := by kernel_rfl
  refine open_rowB (⟨0, fun _ => zeroI, 0, fun _ => 0⟩, ⟨none, 0, none, 0, 0⟩) PcQ Tryz.underlying23 (c := 3) (by kernel_rfl) (by decide) (by kernel_rfl) hs (fun n cs b o y hl hb hc hy hz => ?_) h
  obtain ⟨xs, kk, hk, hxy, _, hxl, hf⟩ := DataW.trod_struct Tryz.underlying48 hy
  match xs, hxl, cs, hl with
  | [z0, z1, z2], _, [v0, v1, v2], _ =>
    have g0 := hf 0 _ rfl
    have g1 := hf 1 _ rfl
    have g2 := hf 2 _ rfl
    simp [c1, c2, c3] at g0 g1 g2
    obtain ⟨a0, l0, p0, V0, e0, f0⟩ := open_ins g0 (hz.field Tryz.underlying48 hxy (i := 0) rfl rfl)
    obtain ⟨a1, l1, p1, V1, e1, f1⟩ := open_nums g1 (hz.field Tryz.underlying48 hxy (i := 1) rfl rfl)
    obtain ⟨n2, e2, _⟩ := DataW.trod_int Tryz.underlying3 g2
    simp at e0 e1 e2
    subst e0 e1 e2
    exact ⟨(⟨l0, V0, l1, V1⟩, ⟨a0, p0, a1, p1, n2⟩), ⟨hc 0 _ rfl, hc 1 _ rfl, hc 2 _ rfl, f0.ins, f1.num⟩, f0.nil, f1.nil, f0.fits, f1.fits⟩
structure PcsQ (W : World) (a : Option Addr) (K c : Nat) (V : Nat → Lk.PcV) (A : Nat → PcA) : Prop where
  ps : PcsIn W.heap.size W a K c V A
  sz : K * 56 ≤ reachBytes
  iz : ∀ k, k < K → (A k).ia = none → (V k).n = 0 ∧ (A k).ic = 0
  mz : ∀ k, k < K → (A k).ma = none → (V k).m = 0 ∧ (A k).mc = 0
  ib : ∀ k, k < K → (V k).n * 72 ≤ reachBytes
  mb : ∀ k, k < K → (V k).m * 8 ≤ reachBytes
theorem RowB.pieces {W : World} {a : Option Addr} {len cap : Nat} {X : Nat → Lk.PcV × PcA} (h : RowB 3 56 PcQ W a len cap X) : PcsQ W a len cap (fun k => (X k).1) (fun k => (X k).2) := by
  rcases h.bs with h0 | ⟨b, off, e, hl, hq⟩
  · exact ⟨⟨h.le, h.max, .inl h0⟩, h.fits, fun k hk => by omega, fun k hk => by omega, fun k hk => by omega, fun k hk => by omega⟩
  · exact ⟨⟨h.le, h.max, .inr ⟨b, off, e, hl, fun k hk => (hq k hk).pa⟩⟩, h.fits, fun k hk => (hq k hk).iz, fun k hk => (hq k hk).mz, fun k hk => (hq k hk).ib, fun k hk => (hq k hk).mb⟩
structure AkV where
  t : Int
  a : Option Addr
  K : Nat
  c : Nat
  V : Nat → Lk.PcV
  A : Nat → PcA
  da : Option Addr
  dn : Nat
  dc : Nat
  dg : Nat → Int
  en : Int
structure AkAt (W : World) (b o : Nat) (v : AkV) : Prop where
  c0 : W.cell? ⟨b, o, none⟩ = some (.int .i64 v.t)
  c1 : W.cell? ⟨b, o + 1, none⟩ = some (.slice v.a v.K v.c)
  c2 : W.cell? ⟨b, o + 2, none⟩ = some (.slice v.da v.dn v.dc)
  c3 : W.cell? ⟨b, o + 3, none⟩ = some (.int .i64 v.en)
  ps : PcsQ W v.a v.K v.c v.V v.A
  d : BsIn W v.da v.dn v.dc v.dg
  dz : v.dn ≤ reachBytes
set_option maxRecDepth 100000 in
theorem open_asks6 {H : Type} {enc : TypeId × Value → H} {W : World} {spare : Nat → Bool} {held : Bool} {fuel : Nat} {cs : List Value} {x : DataW H × List MemPlace}
    (h : DataW.trod enc Tryz.prog W 0 spare held fuel 22 cs = some x) (hs : Fits 22 x.1) : ∃ a len cap V, cs = [.slice a len cap] ∧ RowB 4 64 AkAt W a len cap V := by
  have c1 : Tryz.prog.cellsOf 3 = 1 := by kernel_rfl
  have c2 : Tryz.prog.cellsOf 23 = 1 := by kernel_rfl
  have c3 : Tryz.prog.cellsOf 24 = 1 := by kernel_rfl
  refine open_rowB ⟨0, none, 0, 0, fun _ => ⟨0, fun _ => zeroI, 0, fun _ => 0⟩, fun _ => ⟨none, 0, none, 0, 0⟩, none, 0, 0, fun _ => 0, 0⟩ AkAt Tryz.underlying22 (c := 4) (by kernel_rfl) (by decide) (by kernel_rfl) hs (fun n cs b o y hl hb hc hy hz => ?_) h
  obtain ⟨xs, kk, hk, hxy, _, hxl, hf⟩ := DataW.trod_struct Tryz.underlying26 hy
  match xs, hxl, cs, hl with
  | [z0, z1, z2, z3], _, [v0, v1, v2, v3], _ =>
    have g0 := hf 0 _ rfl
    have g1 := hf 1 _ rfl
    have g2 := hf 2 _ rfl
    have g3 := hf 3 _ rfl
    simp [c1, c2, c3] at g0 g1 g2 g3
    obtain ⟨n0, e0, _⟩ := DataW.trod_int Tryz.underlying3 g0
    obtain ⟨a1, l1, p1, V1, e1, f1⟩ := open_pieces g1 (hz.field Tryz.underlying26 hxy (i := 1) rfl rfl)
    obtain ⟨a2, l2, p2, V2, e2, f2⟩ := open_bytes g2
    have d2 := slice_fits Tryz.underlying24 (by decide +kernel) (hz.field Tryz.underlying26 hxy (i := 2) rfl rfl) g2 e2
    obtain ⟨n3, e3, _⟩ := DataW.trod_int Tryz.underlying3 g3
    simp at e0 e1 e2 e3
    subst e0 e1 e2 e3
    exact ⟨⟨n0, a1, l1, p1, fun k => (V1 k).1, fun k => (V1 k).2, a2, l2, p2, V2, n3⟩, hc 0 _ rfl, hc 1 _ rfl, hc 2 _ rfl, hc 3 _ rfl, f1.pieces, f2, d2⟩
end Go.Proofs.YtkiockffejlnhaaGreatDoor

/- Copies of pieces. -/
namespace Go.Proofs.YtkiockffejlnhaaGreatDoor
open Go.RowKit
set_option linter.unusedVariables false
theorem grown_ch {w w' : World} {row : Option Nat} (h : w.grownBy w' row) : Ch w w' row.toList := ⟨h.os, h.tape, h.output, h.size, fun k hk hn => h.block k hk (by intro e; subst e; simp at hn)⟩
def InsB (w : World) (b : Nat) : Prop := ∃ cur, w.heap[b]? = some (.cells cur 50 (0, 0))
theorem InsB.lt {w : World} {b : Nat} (h : InsB w b) : b < w.heap.size := by obtain ⟨cur, h⟩ := h; exact (Array.getElem?_eq_some_iff.1 h).1
theorem InsB.ch {w w' : World} {b : Nat} {l : List Nat} (h : InsB w b) (hg : Ch w w' l) (hb : b ∉ l) : InsB w' b := by
  have hl := h.lt
  obtain ⟨cur, h⟩ := h
  exact ⟨cur, (hg.block b hl hb).trans h⟩
theorem InsIn.grow {N : Nat} {w w' : World} {a : Option Addr} {n c : Nat} {I : Nat → InV} (h : InsIn N w a n c I) (hg : w.grownBy w' none) : InsIn N w' a n c I := h.ch (l := []) (Ch.of hg) (by simp)
theorem InsIn.ch2 {N : Nat} {w w' : World} {a : Option Addr} {n c : Nat} {I : Nat → InV} {l : List Nat} (h : InsIn N w a n c I) (hg : Ch w w' l) (hl : ∀ b o, a = some ⟨b, o, none⟩ → b ∉ l) : InsIn N w' a n c I :=
  ⟨h.le, h.max, by
    rcases h.lie with h0 | ⟨b, off, e, hb, hi⟩
    · exact .inl h0
    · exact .inr ⟨b, off, e, hb, fun i hi' => (hi i hi').ch hg (hl b off e)⟩, h.rng⟩
theorem InAt.get {w : World} {b o : Nat} {v : InV} (h : InAt w b o v) {k : Nat} (hk : k < 9) : w.cell? ⟨b, o + k, none⟩ = (cells9 v)[k]? := by
  have : k = 0 ∨ k = 1 ∨ k = 2 ∨ k = 3 ∨ k = 4 ∨ k = 5 ∨ k = 6 ∨ k = 7 ∨ k = 8 := by omega
  rcases this with rfl | rfl | rfl | rfl | rfl | rfl | rfl | rfl | rfl
  · exact h.c0
  · exact h.c1
  · exact h.c2
  · exact h.c3
  · exact h.c4
  · exact h.c5
  · exact h.c6
  · exact h.c7
  · exact h.c8
theorem insIn_own' {W : World} {base T c N : Nat} {l : List InV} (h : OwnI W base (.slice (some ⟨T, 0, none⟩) l.length c) l) (hN : W.heap.size ≤ N) (hr : ∀ v, v ∈ l → InRng v) (I : Nat → InV) (hI : ∀ i (hi : i < l.length), I i = l[i]) : InsIn N W (some ⟨T, 0, none⟩) l.length c I := by
  obtain ⟨ao, c', e, hc, _⟩ := h.slice
  simp at e
  obtain ⟨_, rfl⟩ := e
  have hm : c ≤ maxLen := by
    rcases h.2 with ⟨e1, _⟩ | ⟨g, c2, cur, e1, _, _, _, hm, _⟩
    · cases e1
    · simp at e1; obtain ⟨_, rfl⟩ := e1; exact hm
  refine ⟨hc, hm, .inr ⟨T, 0, rfl, Nat.lt_of_lt_of_le (World.ownsRow.lt h T rfl).2 hN, fun i hi => ?_⟩, fun i hi => ?_⟩
  · rw [hI i hi]; exact h.inAt rfl hi
  · rw [hI i hi]; exact hr _ (List.getElem_mem hi)
set_option maxRecDepth 100000 in
set_option maxHeartbeats 4000000 in
theorem copyInsts_any {N : Nat} {w : World} {a : Option Addr} {n c : Nat} {I : Nat → InV} (h : InsIn N w a n c I) (hz : a = none → n = 0 ∧ c = 0) (hf : n * 72 ≤ reachBytes) :
    Calls Tryz.prog 36 #[.slice a n c] w fun e w' => ∃ a' c', e = .returned (.slice a' n c') ∧ InsIn w'.heap.size w' a' n c' I ∧ (a' = none → n = 0 ∧ c' = 0) ∧ (∀ b o, a' = some ⟨b, o, none⟩ → w.heap.size ≤ b ∧ InsB w' b) ∧ w.grownBy w' none := by
  obtain ⟨i, hi, hz0, hz1, hz2⟩ := info_parts info_inst
  have hf' : n * 72 ≤ 140737488351232 := hf
  have hle := h.le
  have hmx := h.max
  unfold maxLen at hmx
  cases a with
  | none =>
    obtain ⟨rfl, rfl⟩ := hz rfl
    go_enter Tryz.func36, Tryz.ntmps36
    go_wp2_with (at_builtin; refine wpList_append_own_none rfl _ _ 46 rfl w.heap.size 50 i 9 Tryz.underlying46 hi (.slice none 0 0) 0 [] rfl (World.ownsRow_nil _ _ _ _) rfl ?_)
    go_ret
    exact ⟨none, 0, rfl, ⟨Nat.le_refl _, Nat.zero_le _, .inl rfl, fun i hi => by omega⟩, fun _ => by simp, (fun b o e => by cases e), World.grownBy.refl _ _⟩
  | some ad =>
    have HL : Hid (∀ j u, (((List.range n).map I).flatMap cells9)[j]? = some u → w.cell? (ad.add j) = some u) := by
      intro j u hj
      have hjn : j < n * 9 := by have := (List.getElem?_eq_some_iff.1 hj).1; rw [flat9_len] at this; simpa using this
      obtain ⟨b, off, e, _, hc, _⟩ := h.at (i := j / 9) (by omega)
      injection e with e
      subst e
      have h1 := flat9_at ((List.range n).map I) (j / 9) (j % 9) (by simp; omega) (by omega)
      rw [show j / 9 * 9 + j % 9 = j by omega, hj] at h1
      have h2 := hc.get (k := j % 9) (by omega)
      rw [addr_add, show off + j = off + j / 9 * 9 + j % 9 by omega, h2, h1]
      simp
    have hl : (((List.range n).map I).flatMap cells9).length = n * 9 := by rw [flat9_len]; simp
    have h1c : ∀ u ∈ ((List.range n).map I).flatMap cells9, u.oneCell' = true := by intro y hy; obtain ⟨z, _, hz⟩ := List.mem_flatMap.mp hy; simp [cells9] at hz; rcases hz with rfl | rfl | rfl | rfl | rfl | rfl | rfl | rfl | rfl <;> rfl
    obtain ⟨Z, hZ⟩ : ∃ Z, Z = ((List.range n).map I).flatMap cells9 := ⟨_, rfl⟩
    rw [← hZ] at HL hl h1c
    have HZ : Hid (Z = ((List.range n).map I).flatMap cells9) := hZ
    have HR : Hid (∀ i, i < n → InRng (I i)) := h.rng
    clear h hZ hz
    go_enter Tryz.func36, Tryz.ntmps36
    go_wp2_with (at_builtin; refine wpList_append_own _ rfl _ _ 46 rfl w.heap.size 50 i _ 9 72 Tryz.underlying46 hi hz0 hz1 hz2 rfl (by decide) (.slice none 0 0) 0 [] rfl (World.ownsRow_nil _ _ _ _) ad n c Z rfl hl HL.out h1c (by unfold maxLen; omega) (by omega) (Nat.le_refl _) ?_; intro v' w2 ho2 hg2 hv2)
    go_ret
    have ho : OwnI w2 w.heap.size v' ((List.range n).map I) := by
      unfold OwnI
      rw [List.length_map, List.length_range, ← HZ.out]
      simpa using ho2
    rcases ho.2 with ⟨rfl, h0⟩ | ⟨T5, c5, cur, rfl, hb5, hg5, hc5, hm5, _⟩
    · have h0' : n = 0 := by simpa using h0
      subst h0'
      exact ⟨none, 0, rfl, ⟨Nat.le_refl _, Nat.zero_le _, .inl rfl, fun i hi => by omega⟩, fun _ => ⟨rfl, rfl⟩, (fun b o e => by cases e), hg2⟩
    · have en : ((List.range n).map I).length = n := by simp
      have e2 := insIn_own' ho (Nat.le_refl _) (fun v hv => by obtain ⟨k, hk, rfl⟩ := List.mem_map.1 hv; exact HR.out k (by simpa using hk)) I (fun i hi => by simp)
      rw [en] at e2 hc5 ⊢
      refine ⟨_, c5, rfl, e2, (fun e => by cases e), fun b o e => ?_, hg2⟩
      injection e with e
      injection e with e
      subst e
      exact ⟨hb5, cur, hg5⟩
end Go.Proofs.YtkiockffejlnhaaGreatDoor

/- A piece, pieces: the same in new memory. -/
namespace Go.Proofs.YtkiockffejlnhaaGreatDoor
open Go.RowKit
set_option linter.unusedVariables false
set_option maxRecDepth 100000 in
set_option maxHeartbeats 4000000 in
theorem copyPiece_any {N : Nat} {w : World} {P : Lk.PcV} {A : PcA} (hN : N ≤ w.heap.size) (h : InsIn N w A.ia P.n A.ic P.I) (hz : A.ia = none → P.n = 0 ∧ A.ic = 0) (hf : P.n * 72 ≤ reachBytes)
    (hm : NumIn N w A.ma P.m A.mc P.M) (hmz : A.ma = none → P.m = 0 ∧ A.mc = 0) (hmf : P.m * 8 ≤ reachBytes) :
    Calls Tryz.prog 19 #[.agg #[.slice A.ia P.n A.ic, .slice A.ma P.m A.mc, .int .i64 A.out]] w fun e w' => ∃ a1 c1 a2 c2, e = .returned (.agg #[.slice a1 P.n c1, .slice a2 P.m c2, .int .i64 A.out]) ∧
      (InsIn w'.heap.size w' a1 P.n c1 P.I ∧ ∀ b o, a1 = some ⟨b, o, none⟩ → w.heap.size ≤ b ∧ InsB w' b) ∧ (NumIn w'.heap.size w' a2 P.m c2 P.M ∧ ∀ b o, a2 = some ⟨b, o, none⟩ → w.heap.size ≤ b ∧ IntB w' b) ∧ w.grownBy w' none := by
  obtain ⟨W3, hW3⟩ : ∃ W3, W3 = ((w.alloc (.cells #[.slice A.ia P.n A.ic, .slice A.ma P.m A.mc, .int .i64 A.out] 48)).alloc (.cells #[.slice none 0 0, .slice none 0 0, .int .i64 0] 48)).alloc (.cells #[.slice A.ia P.n A.ic, .slice A.ma P.m A.mc, .int .i64 A.out] 48) := ⟨_, rfl⟩
  have hg3 : w.grownBy W3 none := by rw [hW3]; exact ga (ga (World.grownBy_alloc _ _ _) _) _
  have hs3 : W3.heap.size = w.heap.size + 3 := by rw [hW3]; simp
  have HC : Hid (Calls Tryz.prog 36 #[.slice A.ia P.n A.ic] W3 fun e w' => ∃ a' c', e = .returned (.slice a' P.n c') ∧ InsIn w'.heap.size w' a' P.n c' P.I ∧ (a' = none → P.n = 0 ∧ c' = 0) ∧ (∀ b o, a' = some ⟨b, o, none⟩ → W3.heap.size ≤ b ∧ InsB w' b) ∧ W3.grownBy w' none) := copyInsts_any (h.grow hg3) hz hf
  have HD : Hid (∀ W, Ch W3 W [w.heap.size + 2] → Calls Tryz.prog 37 #[.slice A.ma P.m A.mc] W fun e w' => ∃ a' c', e = .returned (.slice a' P.m c') ∧ NumIn w'.heap.size w' a' P.m c' P.M ∧ (a' = none → P.m = 0 ∧ c' = 0) ∧ (∀ b o, a' = some ⟨b, o, none⟩ → W.heap.size ≤ b ∧ IntB w' b) ∧ W.grownBy w' none) := fun W hc => copyNums_any ((hm.grow hg3).ch hc (by simp; omega)) hmz hmf
  have HG3 : Hid (w.grownBy W3 none) := hg3
  have HW3 : Hid (W3 = ((w.alloc (.cells #[.slice A.ia P.n A.ic, .slice A.ma P.m A.mc, .int .i64 A.out] 48)).alloc (.cells #[.slice none 0 0, .slice none 0 0, .int .i64 0] 48)).alloc (.cells #[.slice A.ia P.n A.ic, .slice A.ma P.m A.mc, .int .i64 A.out] 48)) := hW3
  have K : Hid ((∀ j v, (#[.slice A.ia P.n A.ic, .slice A.ma P.m A.mc, .int .i64 A.out] : Array Value)[j]? = some v → W3.cell? ⟨w.heap.size + 2, j, none⟩ = some v) ∧ (∀ q, W3.frozen? ⟨w.heap.size + 2, q, none⟩ = false) ∧ (∀ j v, (#[.slice none 0 0, .slice none 0 0, .int .i64 0] : Array Value)[j]? = some v → W3.cell? ⟨w.heap.size + 1, j, none⟩ = some v) ∧ (∀ q, W3.frozen? ⟨w.heap.size + 1, q, none⟩ = false) ∧ (∀ j v, (#[.slice A.ia P.n A.ic, .slice A.ma P.m A.mc, .int .i64 A.out] : Array Value)[j]? = some v → W3.cell? ⟨w.heap.size, j, none⟩ = some v)) := by
    rw [hW3]
    refine ⟨fun j v hv => ?_, fun q => ?_, fun j v hv => ?_, fun q => ?_, fun j v hv => ?_⟩
    · rw [← hv]; exact cells_new _ _ (by simp) _
    · exact fzs_new _ _ (by simp) _
    · exact (Ch.of (l := []) (World.grownBy_alloc _ _ _)).cell ((cells_new _ _ (by simp) _).trans hv) (by simp)
    · exact frozenK (l := []) (Ch.of (World.grownBy_alloc _ _ _)) (by simp) (by simp) (fzs_new _ _ (by simp) _)
    · exact (Ch.of (l := []) (ga (World.grownBy_alloc _ _ _) _)).cell ((cells_new _ _ rfl _).trans hv) (by simp)
  clear h hz hf hm hmz hmf hg3 hW3
  go_enter Tryz.func19, Tryz.ntmps19
  go_wp2_with (first
    | (go_at_call 36; rw [← HW3.out]; refine HC.out.mono ?_; rintro e w4 ⟨a', c', rfl, hN4, hz4, hb4, hg4⟩; have HN4 : Hid (InsIn w4.heap.size w4 a' P.n c' P.I ∧ (∀ b o, a' = some ⟨b, o, none⟩ → W3.heap.size ≤ b ∧ InsB w4 b)) := ⟨hN4, hb4⟩; have HG4 : Hid (W3.grownBy w4 none) := hg4; have k0 := (Ch.of (l := []) hg4).cell (K.out.1 0 _ rfl) (by simp); have p1 := (Ch.of (l := []) hg4).cell (K.out.2.2.2.2 1 _ rfl) (by simp); have z0 := frozenK (l := []) (Ch.of hg4) (by omega) (by simp) (K.out.2.1 0); have HC4 : Hid (Ch W3 (w4.setCell ⟨w.heap.size + 2, 0, none⟩ (.slice a' P.n c')) [w.heap.size + 2]) := (Ch.of hg4).trans (Ch.one (grown_set _ _ _ _) (by simp)); clear hN4 hz4 hb4 hg4)
    | (go_at_call 37; refine (HD.out _ HC4.out).mono ?_; rintro e w6 ⟨a2, c2, rfl, hN6, hz6, hb6, hg6⟩; have HN6 : Hid (NumIn w6.heap.size w6 a2 P.m c2 P.M ∧ (∀ b o, a2 = some ⟨b, o, none⟩ → (w4.setCell ⟨w.heap.size + 2, 0, none⟩ (.slice a' P.n c')).heap.size ≤ b ∧ IntB w6 b)) := ⟨hN6, hb6⟩; have HG6 : Hid ((w4.setCell ⟨w.heap.size + 2, 0, none⟩ (.slice a' P.n c')).grownBy w6 none) := hg6; have HC6 : Hid (Ch W3 w6 [w.heap.size + 2]) := HC4.out.trans (Ch.of hg6); have c6 := HC6.out; have q0 : w6.cell? ⟨w.heap.size + 2, 0, none⟩ = some (.slice a' P.n c') := (Ch.of (l := []) hg6).cell (World.cell?_setCell_same _ _ _ k0) (by simp); have q1 : w6.cell? ⟨w.heap.size + 2, 1, none⟩ = some (.slice A.ma P.m A.mc) := (Ch.of (l := []) hg6).cell ((World.cell?_setCell_other _ _ _ _ (by simp)).trans ((Ch.of (l := []) HG4.out).cell (K.out.1 1 _ rfl) (by simp))) (by simp); have q2 : w6.cell? ⟨w.heap.size + 2, 2, none⟩ = some (.int .i64 A.out) := (Ch.of (l := []) hg6).cell ((World.cell?_setCell_other _ _ _ _ (by simp)).trans ((Ch.of (l := []) HG4.out).cell (K.out.1 2 _ rfl) (by simp))) (by simp); have z1 : w6.frozen? ⟨w.heap.size + 2, 1, none⟩ = false := frozenK (l := []) (Ch.of hg6) (by have := HG4.out.size; simp; omega) (by simp) (by rw [World.frozen?_setCell]; exact frozenK (l := []) (Ch.of HG4.out) (by omega) (by simp) (K.out.2.1 1)); have r0 := c6.cell (K.out.2.2.1 0 _ rfl) (by simp); have r1 := c6.cell (K.out.2.2.1 1 _ rfl) (by simp); have r2 := c6.cell (K.out.2.2.1 2 _ rfl) (by simp); have y0 := frozenK c6 (by omega) (by simp) (K.out.2.2.2.1 0); have y1 := frozenK c6 (by omega) (by simp) (K.out.2.2.2.1 1); have y2 := frozenK c6 (by omega) (by simp) (K.out.2.2.2.1 2); clear hN6 hz6 hb6 hg6 c6))
  refine bodyPost_ret (by simp [results, Tryz.results19, go_sem, r0, r1, r2]; try rfl) rfl ?_
  have hs4 := HG4.out.size
  have hs6 := HC6.out.size
  generalize hw9 : (((w6.setCell _ _).setCell _ _).setCell _ _).setCell _ _ = w9
  have c9 : Ch w6 w9 [w.heap.size + 1, w.heap.size + 2] := by
    rw [← hw9]
    exact (((Ch.one (grown_set _ _ _ _) (by simp)).trans (Ch.one (grown_set _ _ _ _) (by simp))).trans (Ch.one (grown_set _ _ _ _) (by simp))).trans (Ch.one (grown_set _ _ _ _) (by simp))
  have c49 : Ch w4 w9 [w.heap.size + 1, w.heap.size + 2] := ((Ch.one (grown_set w4 (w.heap.size + 2) 0 (.slice a' P.n c')) (by simp)).trans (Ch.of HG6.out)).trans c9
  have hsz : (w4.setCell ⟨w.heap.size + 2, 0, none⟩ (.slice a' P.n c')).heap.size = w4.heap.size := by simp
  have i1 : ∀ b o, a' = some ⟨b, o, none⟩ → b ∉ [w.heap.size + 1, w.heap.size + 2] := fun b o e => by have := (HN4.out.2 b o e).1; simp; omega
  have i2 : ∀ b o, a2 = some ⟨b, o, none⟩ → b ∉ [w.heap.size + 1, w.heap.size + 2] := fun b o e => by have := (HN6.out.2 b o e).1; simp at this ⊢; omega
  refine ⟨a', c', a2, c2, rfl, ⟨(HN4.out.1.ch2 c49 i1).up c49.size, fun b o e => ⟨by have := (HN4.out.2 b o e).1; omega, (HN4.out.2 b o e).2.ch c49 (i1 b o e)⟩⟩, ⟨(HN6.out.1.ch2 c9 i2).up c9.size, fun b o e => ⟨by have := (HN6.out.2 b o e).1; simp at this; omega, (HN6.out.2 b o e).2.ch c9 (i2 b o e)⟩⟩, ?_⟩
  exact ((Ch.of (grown_trans HG3.out HG4.out)).trans c49).nil (by simp)
structure Pe where
  P : Lk.PcV
  A : PcA
def cellsP (e : Pe) : List Value := [.slice e.A.ia e.P.n e.A.ic, .slice e.A.ma e.P.m e.A.mc, .int .i64 e.A.out]
def OwnP (w : World) (base : Nat) (v : Value) (l : List Pe) : Prop := w.ownsRow base 48 3 v l.length (l.flatMap cellsP)
theorem info_pc : (Tryz.prog.info? 48).map (fun i => (i.zero, i.size, i.bytes)) = some (some (.agg #[.slice none 0 0, .slice none 0 0, .int .i64 0]), 3, 56) := by kernel_rfl
theorem flatP_at : ∀ (l : List Pe) (i k : Nat) (hi : i < l.length), k < 3 → (l.flatMap cellsP)[i * 3 + k]? = (cellsP l[i])[k]?
  | [], i, k, hi, _ => by simp at hi
  | v :: l, 0, k, _, hk => by
    rw [List.flatMap_cons, List.getElem?_append_left (by simp [cellsP]; omega)]
    simp
  | v :: l, i + 1, k, hi, hk => by
    have h4 : (cellsP v).length = 3 := rfl
    rw [List.flatMap_cons, List.getElem?_append_right (by rw [h4]; omega), h4, show (i + 1) * 3 + k - 3 = i * 3 + k by omega]
    exact flatP_at l i k (by simpa using hi) hk
theorem OwnP.grow {w w' : World} {base : Nat} {v : Value} {l : List Pe} (h : OwnP w base v l) (hg : w.grownBy w' none) : OwnP w' base v l := World.ownsRow.kept h hg (Classical.em _)
theorem OwnP.base {w : World} {base : Nat} {v : Value} {l : List Pe} (h : OwnP w base v l) : ∀ k, v.ownBlock = some k → base ≤ k := fun k hk => (World.ownsRow.lt h k hk).1
theorem wp_appPe {ops : Array Oper} {rest : List Oper} {o : Oper} {a : Act} {Q : Exit → Act → World → Prop} {W : World} (hgd : o.guard = none) (s x : Operand)
    (ho : o.op = .call { callee := .builtin .append, args := #[s, x], argTypes := #[23, 23] }) (base : Nat) (v : Value) (l : List Pe) (u : Pe) (hs : a.eval s = v) (hown : OwnP W base v l)
    (hx : a.eval x = .slice (some ⟨W.heap.size, 0, none⟩) 1 1) (hl : l.length ≤ 100000) (hb : base ≤ W.heap.size)
    (h : ∀ v' w', OwnP w' base v' (l ++ [u]) → W.grownBy w' v.ownBlock → wpList Tryz.prog ops Q rest (a.put o.dst v') w') : wpList Tryz.prog ops Q (o :: rest) a (W.alloc (Obj.cells #[.slice u.A.ia u.P.n u.A.ic, .slice u.A.ma u.P.m u.A.mc, .int .i64 u.A.out] 48)) := by
  obtain ⟨i, hi, hz0, hz1, hz2⟩ := info_parts info_pc
  refine wpList_append_own _ hgd s x 23 ho base 48 i _ 3 56 Tryz.underlying23 hi hz0 hz1 hz2 rfl (by decide) v l.length (l.flatMap cellsP) hs (World.ownsRow.alloc hown _) ⟨W.heap.size, 0, none⟩ 1 1 (cellsP u) hx rfl
    (by intro j y hj; rw [addr_add, Nat.zero_add, cells_new _ _ rfl]; rw [← hj]; simp [cellsP]) (by intro y hy; simp [cellsP] at hy; rcases hy with rfl | rfl | rfl <;> rfl) (by unfold maxLen; omega) (by omega) (by simp; omega) ?_
  intro v' w2 ho2 hg2 _
  refine h v' w2 ?_ (grown_trans (grown_noneR _ (World.grownBy_alloc _ _ _)) hg2)
  unfold OwnP
  rw [List.length_append, List.flatMap_append]
  simpa using ho2
theorem OwnP.apart {w : World} {base b : Nat} {v : Value} {l : List Pe} (h : OwnP w base v l) (hb : IntB w b ∨ InsB w b) : v.ownBlock ≠ some b := by
  intro e
  rcases h.2 with ⟨rfl, _⟩ | ⟨g, c, cur, rfl, _, hg, _⟩
  · cases e
  · simp [Value.ownBlock] at e
    subst e
    rcases hb with ⟨cur', h'⟩ | ⟨cur', h'⟩
    · rw [hg] at h'; simp at h'
    · rw [hg] at h'; simp at h'
structure CopP (w wr : World) (V : Nat → Lk.PcV) (k : Nat) (v : Value) (l : List Pe) : Prop where
  own : OwnP wr w.heap.size v l
  len : l.length = k
  ent : ∀ i (hi : i < l.length), l[i].P = V i ∧ (InsIn wr.heap.size wr l[i].A.ia (V i).n l[i].A.ic (V i).I ∧ ∀ b o, l[i].A.ia = some ⟨b, o, none⟩ → InsB wr b) ∧ (NumIn wr.heap.size wr l[i].A.ma (V i).m l[i].A.mc (V i).M ∧ ∀ b o, l[i].A.ma = some ⟨b, o, none⟩ → IntB wr b)
  gr : w.grownBy wr none
theorem CopP.ps {w wr : World} {V : Nat → Lk.PcV} {k : Nat} {v : Value} {l : List Pe} (h : CopP w wr V k v l) : ∃ a c A, v = .slice a k c ∧ PcsIn wr.heap.size wr a k c V A := by
  have hl := h.len
  subst hl
  rcases h.own.2 with ⟨rfl, h0⟩ | ⟨g, c, cur, rfl, hb, hg, hc, hcm, _⟩
  · exact ⟨none, 0, fun _ => ⟨none, 0, none, 0, 0⟩, by rw [h0], by omega, Nat.zero_le _, .inl h0⟩
  · refine ⟨_, c, fun i => (l.getD i ⟨⟨0, fun _ => zeroI, 0, fun _ => 0⟩, ⟨none, 0, none, 0, 0⟩⟩).A, rfl, hc, hcm, .inr ⟨g, 0, rfl, (World.ownsRow.lt h.own g rfl).2, fun i hi => ?_⟩⟩
    have e : ∀ q, q < 3 → wr.cell? ⟨g, i * 3 + q, none⟩ = (cellsP l[i])[q]? := fun q hq => (World.ownsRow.cellAt h.own (i * 3 + q) (by omega)).trans (flatP_at l i q hi hq)
    obtain ⟨e1, ⟨e2, _⟩, e3, _⟩ := h.ent i hi
    have eg : l.getD i ⟨⟨0, fun _ => zeroI, 0, fun _ => 0⟩, ⟨none, 0, none, 0, 0⟩⟩ = l[i] := by simp [List.getD_eq_getElem?_getD, hi]
    rw [Nat.zero_add]
    simp only [eg]
    refine ⟨?_, ?_, ?_, e2, e3⟩
    · rw [← e1]; exact e 0 (by decide)
    · rw [← e1]; exact e 1 (by decide)
    · exact e 2 (by decide)
set_option maxRecDepth 100000 in
set_option maxHeartbeats 4000000 in
theorem copyPieces_any {w : World} {N : Nat} {a : Option Addr} {K c : Nat} {V : Nat → Lk.PcV} {A : Nat → PcA} (h : PcsIn N w a K c V A) (hN : N ≤ w.heap.size) (hn : K ≤ 3000) (iz : ∀ k, k < K → (A k).ia = none → (V k).n = 0 ∧ (A k).ic = 0) (mz : ∀ k, k < K → (A k).ma = none → (V k).m = 0 ∧ (A k).mc = 0) (ib : ∀ k, k < K → (V k).n * 72 ≤ reachBytes) (mb : ∀ k, k < K → (V k).m * 8 ≤ reachBytes) :
    Calls Tryz.prog 6 #[.slice a K c] w fun e w' => ∃ a' c' A', e = .returned (.slice a' K c') ∧ PcsIn w'.heap.size w' a' K c' V A' ∧ w.grownBy w' none := by
  have hle := h.le
  have hmx := h.max
  unfold maxLen at hmx
  have hn' : (K : Int) ≤ 3000 := by omega
  have HT : Hid (∀ W, w.grownBy W none → PcsIn N W a K c V A) := fun W g => h.ch (l := []) (Ch.of g) (by simp)
  have HF : Hid (∀ k, k < K → ((A k).ia = none → (V k).n = 0 ∧ (A k).ic = 0) ∧ ((A k).ma = none → (V k).m = 0 ∧ (A k).mc = 0) ∧ (V k).n * 72 ≤ reachBytes ∧ (V k).m * 8 ≤ reachBytes) := fun k hk => ⟨iz k hk, mz k hk, ib k hk, mb k hk⟩
  clear h iz mz ib mb
  go_enter Tryz.func6, Tryz.ntmps6
  go_wp2_with fail
  go_loopw [3, 4] (fun v ix wr => ∃ (k : Nat) (l : List Pe), ix = .int .i64 k ∧ k ≤ K ∧ CopP w wr V k v l) (fun _ ix _ => K - (intOf ix).toNat)
  case atStart => exact ⟨0, [], rfl, Nat.zero_le _, World.ownsRow_nil _ _ _ _, rfl, (fun i hi => by simp at hi), World.grownBy.refl _ _⟩
  case round =>
    obtain ⟨k, l, rfl, hk, hc⟩ := hrel
    have HC : Hid (CopP w wr V k _ l) := hc
    by_cases hkn : k < K
    · have hkn' : (k : Int) < K := by omega
      obtain ⟨b, off, rfl, hb, hty⟩ := (HT.out _ hc.gr).at hkn
      have hf := HF.out k hkn
      have hsz := hc.gr.size
      have hcp := copyPiece_any (Nat.le_trans hN hsz) hty.ins hf.1 hf.2.2.1 hty.mks hf.2.1 hf.2.2.2
      obtain ⟨P, hP⟩ : ∃ P, P = V k := ⟨_, rfl⟩
      obtain ⟨B, hB⟩ : ∃ B, B = A k := ⟨_, rfl⟩
      rw [← hP, ← hB] at hcp
      have HCp : Hid (Calls Tryz.prog 19 #[.agg #[.slice B.ia P.n B.ic, .slice B.ma P.m B.mc, .int .i64 B.out]] wr fun e w' => ∃ a1 c1 a2 c2, e = .returned (.agg #[.slice a1 P.n c1, .slice a2 P.m c2, .int .i64 B.out]) ∧
        (InsIn w'.heap.size w' a1 P.n c1 P.I ∧ ∀ b o, a1 = some ⟨b, o, none⟩ → wr.heap.size ≤ b ∧ InsB w' b) ∧ (NumIn w'.heap.size w' a2 P.m c2 P.M ∧ ∀ b o, a2 = some ⟨b, o, none⟩ → wr.heap.size ≤ b ∧ IntB w' b) ∧ wr.grownBy w' none) := hcp
      have c0 := hty.c0
      have c1 := hty.c1
      have c2 := hty.c2
      rw [← hP, ← hB] at c0 c1
      rw [← hB] at c2
      have hlk := hc.len
      have HX : Hid (P = V k) := hP
      clear hc hcp hty hf hP hB
      go_wp2_with (first
        | (go_at_call 19; refine HCp.out.mono ?_; rintro e w4 ⟨a1, k1, a2, k2, rfl, hN4, hM4, hg4⟩; have HN4 : Hid ((InsIn w4.heap.size w4 a1 P.n k1 P.I ∧ ∀ b o, a1 = some ⟨b, o, none⟩ → wr.heap.size ≤ b ∧ InsB w4 b) ∧ (NumIn w4.heap.size w4 a2 P.m k2 P.M ∧ ∀ b o, a2 = some ⟨b, o, none⟩ → wr.heap.size ≤ b ∧ IntB w4 b)) := ⟨hN4, hM4⟩; have HG4 : Hid (wr.grownBy w4 none) := hg4; have hsz4 := hg4.size; clear hN4 hM4 hg4)
        | (at_builtin; refine wp_appPe rfl _ _ rfl w.heap.size u3 l ⟨P, ⟨a1, k1, a2, k2, B.out⟩⟩ rfl (HC.out.own.grow HG4.out) rfl (by omega) (by omega) ?_; intro v6 w6 ho6 hg6))
      go_roundw
      case rel =>
        have o4 := HC.out.own.grow HG4.out
        have hch : Ch w4 w6 u3.ownBlock.toList := grown_ch hg6
        have hap : ∀ b, (IntB w4 b ∨ InsB w4 b) → b ∉ u3.ownBlock.toList := fun b hb hm => o4.apart hb (by simpa using hm)
        refine ⟨k + 1, l ++ [⟨P, ⟨a1, k1, a2, k2, B.out⟩⟩], by go_num, by omega, ho6, by simp [hlk], fun i hi => ?_, ?_⟩
        · by_cases hil : i < l.length
          · rw [List.getElem_append_left hil]
            obtain ⟨e1, ⟨e2, e3⟩, e4, e5⟩ := HC.out.ent i hil
            have e3' : ∀ b o, l[i].A.ia = some ⟨b, o, none⟩ → InsB w4 b := fun b o e => (e3 b o e).ch (l := []) (Ch.of HG4.out) (by simp)
            have e5' : ∀ b o, l[i].A.ma = some ⟨b, o, none⟩ → IntB w4 b := fun b o e => (e5 b o e).ch (l := []) (Ch.of HG4.out) (by simp)
            exact ⟨e1, ⟨((e2.grow HG4.out).ch2 hch (fun b o e => hap b (.inr (e3' b o e)))).up (by have := hch.size; omega), fun b o e => (e3' b o e).ch hch (hap b (.inr (e3' b o e)))⟩, ((e4.grow HG4.out).ch2 hch (fun b o e => hap b (.inl (e5' b o e)))).up (by have := hch.size; omega), fun b o e => (e5' b o e).ch hch (hap b (.inl (e5' b o e)))⟩
          · have hik : i = l.length := by simp at hi; omega
            subst hik
            have hT : V l.length = P := by rw [hlk]; exact HX.out.symm
            rw [List.getElem_append_right (Nat.le_refl _)]
            simp only [Nat.sub_self, List.getElem_cons_zero]
            rw [hT]
            obtain ⟨⟨n1, n2⟩, n3, n4⟩ := HN4.out
            exact ⟨rfl, ⟨(n1.ch2 hch (fun b o e => hap b (.inr (n2 b o e).2))).up hch.size, fun b o e => (n2 b o e).2.ch hch (hap b (.inr (n2 b o e).2))⟩, (n3.ch2 hch (fun b o e => hap b (.inl (n4 b o e).2))).up hch.size, fun b o e => (n4 b o e).2.ch hch (hap b (.inl (n4 b o e).2))⟩
        · have := (Ch.of (l := u3.ownBlock.toList) (grown_trans HC.out.gr HG4.out)).trans hch
          exact this.nil (fun q hq => HC.out.own.base q (by simpa using hq))
      case measure => simp [intOf]; omega
    · obtain rfl : k = K := by omega
      obtain ⟨a1, c1, A1, rfl, hT1⟩ := hc.ps
      clear hc
      go_wp2
      go_ret
      exact ⟨a1, c1, A1, rfl, hT1, HC.out.gr⟩
end Go.Proofs.YtkiockffejlnhaaGreatDoor

/- link.Link, whatever is asked. -/
namespace Go.Proofs.YtkiockffejlnhaaGreatDoor
open Go.RowKit
set_option linter.unusedVariables false
def LkYes (t : Int) (K : Nat) (V : Nat → Lk.PcV) (dn : Nat) (dg : Nat → Int) (en : Int) (w : World) (e : Ending) (w' : World) : Prop :=
  (t = 1 ∨ t = 2) ∧ 0 < K ∧ K ≤ 33 ∧ dn ≤ 1048576 ∧ ∃ (n : Nat) (Ls : Nat → Nat → Bool), en = n ∧ n < K ∧ Lk.Lkd t K V Ls ∧ ∃ cv dv TF, e = .returned (.tuple #[.agg #[.int .i64 t, cv, dv, .int .i64 (Lk.pos (ends V (Lk.SS t V Ls)) n), .slice (some ⟨TF, 0, none⟩) K K], .int .i64 0]) ∧
    OwnL w' w.heap.size cv (Lk.codeA t V (Lk.SS t V Ls) K) ∧ OwnB w' w.heap.size dv dn dg ∧ OwnN w' w.heap.size (.slice (some ⟨TF, 0, none⟩) K K) K (Lk.pos (ends V (Lk.SS t V Ls)))
def LkNo (e : Ending) : Prop := e = .returned (.tuple #[.agg #[.int .i64 0, .slice none 0 0, .slice none 0 0, .int .i64 0, .slice none 0 0], .int .i64 60]) ∨ e = .returned (.tuple #[.agg #[.int .i64 0, .slice none 0 0, .slice none 0 0, .int .i64 0, .slice none 0 0], .int .i64 61])
def LkOk (t en : Int) (K : Nat) (V : Nat → Lk.PcV) (dn : Nat) : Prop :=
  (t = 1 ∨ t = 2) ∧ 0 < K ∧ K ≤ 33 ∧ 0 ≤ en ∧ en < K ∧ Lk.piecesB t K V = true ∧ dn ≤ 1048576 ∧ ∀ Ls : Nat → Nat → Bool, (∀ k, k < K → ((V k).sh t).Least (Ls k)) → Lk.pos (ends V (Lk.SS t V Ls)) K ≤ 1048576
theorem pos_least {t : Int} {K : Nat} {V : Nat → Lk.PcV} {Ls Ls' : Nat → Nat → Bool} (hL : ∀ k, k < K → ((V k).sh t).Least (Ls k)) (hL' : ∀ k, k < K → ((V k).sh t).Least (Ls' k)) : Lk.pos (ends V (Lk.SS t V Ls)) K = Lk.pos (ends V (Lk.SS t V Ls')) K :=
  Lk.pos_congr fun k hk => Lk.pos_congr fun i hi => (hL k hk).same (hL' k hk) hi
theorem yes_of {t : Int} (ht : t = 1 ∨ t = 2) {K : Nat} {V : Nat → Lk.PcV} {Ls : Nat → Nat → Bool} {dn : Nat} {dg : Nat → Int} {n : Nat} {w : World} {e : Ending} {w' : World} (h0 : 0 < K) (hK : K ≤ 33) (hn : n < K) (hB : Lk.piecesB t K V = true) (hr : ∀ k, k < K → ∀ i, i < (V k).n → InRng ((V k).I i)) (hL : ∀ k, k < K → ((V k).sh t).Least (Ls k)) (h : LkRes t K V Ls dn dg n w e w') : (¬ LkOk t n K V dn ∧ LkNo e) ∨ (LkOk t n K V dn ∧ LkYes t K V dn dg n w e w') := by
  rcases h with ⟨h1, he⟩ | ⟨h1, h2, cv, dv, TF, he, h3, h4, h5⟩
  · refine .inl ⟨fun hY => ?_, .inr he⟩
    have := hY.2.2.2.2.2.2.2 Ls hL
    have := hY.2.2.2.2.2.2.1
    omega
  · refine .inr ⟨⟨ht, h0, hK, by omega, by omega, hB, h1, fun Ls' hL' => by rw [pos_least hL' hL]; exact h2⟩, ht, h0, hK, h1, n, Ls, rfl, hn, ⟨fun k hk => Lk.PcV.ok_of (Lk.piecesB_iff.1 hB k hk).1 (Lk.piecesB_iff.1 hB k hk).2, hL, hr, h2⟩, cv, dv, TF, he, h3, h4, h5⟩
theorem link_all {w : World} {t en : Int} {a da : Option Addr} {K c dn dc : Nat} {V : Nat → Lk.PcV} {A : Nat → PcA} {dg : Nat → Int} (h : PcsIn w.heap.size w a K c V A) (hTab : TabAt w) (hn : ∀ k, k < K → ((V k).n : Int) ≤ 8796093022208)
    (hd0 : da = none → dn = 0 ∧ dc = 0) (hd : Bs w da dn dg) (hdl : ∀ b off, 0 < dn → da = some ⟨b, off, none⟩ → b < w.heap.size) (hdn : (dn : Int) ≤ 9223372036854775807) :
    Calls Tryz.prog 8 #[.int .i64 t, .slice a K c, .slice da dn dc, .int .i64 en] w fun e w' => w.grownBy w' none ∧ ((¬ LkOk t en K V dn ∧ LkNo e) ∨ (LkOk t en K V dn ∧ LkYes t K V dn dg en w e w')) := by
  have hrng : ∀ k, k < K → ∀ i, i < (V k).n → InRng ((V k).I i) := fun k hk i hi => by
    obtain ⟨b, off, _, _, hp⟩ := h.at hk
    exact hp.ins.rng i hi
  have hps : ∀ W, w.grownBy W none → PcsIn w.heap.size W a K c V A := fun W g => h.ch (l := []) (Ch.of g) (by simp)
  by_cases h1 : t = 1
  · subst h1
    by_cases hK : K = 0 ∨ 33 < K
    · exact (link_no fun W _ => (take_r0 W hK).mono fun e w' ⟨he, hw⟩ => ⟨he, hw ▸ World.grownBy.refl _ _⟩).mono fun e w' ⟨he, hg⟩ => ⟨hg, .inl ⟨fun hY => by have h1 := hY.2.1; have h2 := hY.2.2.1; omega, .inl he⟩⟩
    · by_cases he : en < 0 ∨ (K : Int) ≤ en
      · exact (link_er h hTab (by omega) (by omega) hn he).mono fun e w' ⟨he', hg⟩ => ⟨hg, .inl ⟨fun hY => by have h1 := hY.2.2.2.1; have h2 := hY.2.2.2.2.1; omega, .inl he'⟩⟩
      · obtain ⟨n, rfl⟩ : ∃ n : Nat, en = n := ⟨en.toNat, by omega⟩
        cases hB : Lk.piecesB 1 K V
        · exact (link_no fun W g => (take_r (hps W g) (hTab.kept g (by simp)) hTab.1 g.size (by omega) (by omega) hn).mono fun e w' ⟨g2, h2⟩ => by
            rcases h2 with ⟨h2, _⟩ | ⟨_, h2⟩
            · rw [hB] at h2; cases h2
            · exact ⟨h2, g2⟩).mono fun e w' ⟨he, hg⟩ => ⟨hg, .inl ⟨fun hY => (by have := hY.2.2.2.2.2.1; rw [hB] at this; cases this), .inl he⟩⟩
        · exact (link_r h hTab (by omega) (by omega) hn hB (by omega) hd0 hd hdl hdn).mono fun e w' ⟨hg, Ls, hL, hr⟩ => ⟨hg, yes_of (.inl rfl) (by omega) (by omega) (by omega) hB hrng hL hr⟩
  · by_cases h2 : t = 2
    · subst h2
      by_cases hK : K = 0 ∨ 33 < K
      · exact (link_no fun W _ => (take_c0 W hK).mono fun e w' ⟨he, hw⟩ => ⟨he, hw ▸ World.grownBy.refl _ _⟩).mono fun e w' ⟨he, hg⟩ => ⟨hg, .inl ⟨fun hY => by have h1 := hY.2.1; have h2 := hY.2.2.1; omega, .inl he⟩⟩
      · by_cases he : en < 0 ∨ (K : Int) ≤ en
        · exact (link_ec h hTab (by omega) (by omega) hn he).mono fun e w' ⟨he', hg⟩ => ⟨hg, .inl ⟨fun hY => by have h1 := hY.2.2.2.1; have h2 := hY.2.2.2.2.1; omega, .inl he'⟩⟩
        · obtain ⟨n, rfl⟩ : ∃ n : Nat, en = n := ⟨en.toNat, by omega⟩
          cases hB : Lk.piecesB 2 K V
          · exact (link_no fun W g => (take_c (hps W g) (hTab.kept g (by simp)) hTab.1 g.size (by omega) (by omega) hn).mono fun e w' ⟨g2, h2⟩ => by
              rcases h2 with ⟨h2, _⟩ | ⟨_, h2⟩
              · rw [hB] at h2; cases h2
              · exact ⟨h2, g2⟩).mono fun e w' ⟨he, hg⟩ => ⟨hg, .inl ⟨fun hY => (by have := hY.2.2.2.2.2.1; rw [hB] at this; cases this), .inl he⟩⟩
          · exact (link_c h hTab (by omega) (by omega) hn hB (by omega) hd0 hd hdl hdn).mono fun e w' ⟨hg, Ls, hL, hr⟩ => ⟨hg, yes_of (.inr rfl) (by omega) (by omega) (by omega) hB hrng hL hr⟩
    · exact (link_no fun W _ => (take_no W (by simpa using h1) (by simpa using h2)).mono fun e w' ⟨he, hw⟩ => ⟨he, hw ▸ World.grownBy.refl _ _⟩).mono fun e w' ⟨he, hg⟩ => ⟨hg, .inl ⟨fun hY => by rcases hY.1 with h | h <;> contradiction, .inl he⟩⟩
namespace Lk
theorem codeP_pre (t : Int) (V : Nat → PcV) (S : Nat → Nat → Int) (k : Nat) {i n : Nat} (h : i ≤ n) : ∃ s, codeP t V S k n = codeP t V S k i ++ s := by
  induction n with
  | zero => obtain rfl : i = 0 := by omega
            exact ⟨[], by simp⟩
  | succ n ih =>
    by_cases hi : i = n + 1
    · subst hi; exact ⟨[], by simp⟩
    · obtain ⟨s, hs⟩ := ih (by omega)
      exact ⟨s ++ Ru.encT t (fin t V S k n), by rw [codeP, hs, List.append_assoc]⟩
theorem codeA_pre (t : Int) (V : Nat → PcV) (S : Nat → Nat → Int) {i n : Nat} (h : i ≤ n) : ∃ s, codeA t V S n = codeA t V S i ++ s := by
  induction n with
  | zero => obtain rfl : i = 0 := by omega
            exact ⟨[], by simp⟩
  | succ n ih =>
    by_cases hi : i = n + 1
    · subst hi; exact ⟨[], by simp⟩
    · obtain ⟨s, hs⟩ := ih (by omega)
      exact ⟨s ++ codeP t V S n (V n).n, by rw [codeA, hs, List.append_assoc]⟩
theorem code_split {t : Int} {K : Nat} {V : Nat → PcV} {S : Nat → Nat → Int} {k i : Nat} (hk : k < K) (hi : i < (V k).n) : ∃ s, codeA t V S K = (codeA t V S k ++ codeP t V S k i) ++ (Ru.encT t (fin t V S k i) ++ s) := by
  obtain ⟨s1, h1⟩ := codeA_pre t V S (i := k + 1) (n := K) (by omega)
  obtain ⟨s2, h2⟩ := codeP_pre t V S k (i := i + 1) (n := (V k).n) (by omega)
  refine ⟨s2 ++ s1, ?_⟩
  rw [h1, codeA, h2, codeP]
  simp [List.append_assoc]
end Lk
end Go.Proofs.YtkiockffejlnhaaGreatDoor
