/- link.Link whole. -/
import Derived.Test.YtkiockffejlnhaaGreatDoorLkCode
import Derived.Test.YtkiockffejlnhaaGreatDoorG17
namespace Go.Proofs.YtkiockffejlnhaaGreatDoor
set_option maxRecDepth 100000
set_option maxHeartbeats 32000000
open Go.RowKit
set_option linter.unusedVariables false
theorem snil_eq (w : World) : (binOp .eql 24 (.slice none 0 0) (.slice none 0 0)).run Tryz.prog w = .ok (.bool true) w := by kernel_rfl
theorem snil_ne (ad : Addr) (n cap : Nat) (w : World) : (binOp .eql 24 (.slice (some ad) n cap) (.slice none 0 0)).run Tryz.prog w = .ok (.bool false) w := by kernel_rfl
theorem sclone_any (n cap : Nat) (ao : Option Addr) (g : Nat → Int) (w : World) (hn : (n : Int) ≤ 1048576) (h0 : ao = none → n = 0 ∧ cap = 0) (ha : Bs w ao n g) :
  Calls Tryz.prog 25 #[.slice ao n cap] w fun e w' => ∃ v, e = .returned v ∧ OwnB w' w.heap.size v n g ∧ w.grownBy w' none := by
 obtain ⟨i, hi, hz0, hz1, hz2⟩ := info_parts info_u8
 have e1 := snil_eq
 have e2 := snil_ne
 cases ao with
 | none =>
  obtain ⟨rfl, rfl⟩ := h0 rfl
  go_enter Tryz.func25, Tryz.ntmps25
  go_wp2
  go_ret
  exact ⟨_, rfl, World.ownsRow_nil _ _ _ _, gr0⟩
 | some ad =>
  have HC : Hid (∀ j u, (bytesL n g)[j]? = some u → (w.alloc (.cells #[] 5)).cell? (ad.add j) = some u) := by
   intro j u hu
   obtain ⟨hj, rfl⟩ := bytesL_get hu
   obtain ⟨b, o, e, hc⟩ := ha.at (by omega)
   injection e with e
   subst e
   rw [add_none]
   exact (World.grownBy_alloc _ _ none).cell (hc j hj) (by simp)
  have HL : Hid ((w.alloc (.cells #[] 5)).ownsRow w.heap.size 5 1 (.slice (some ⟨w.heap.size, 0, none⟩) 0 0) 0 []) := OwnL.lit w w.heap.size [] (Nat.le_refl _) (Nat.zero_le _)
  clear ha h0
  go_enter Tryz.func25, Tryz.ntmps25
  go_wp2_with (at_builtin; refine wpList_append_own _ rfl _ _ 24 rfl w.heap.size 5 i (.int .u8 0) 1 1 Tryz.underlying24 hi hz0 hz1 hz2 rfl (by decide) _ 0 [] rfl HL.out ad n cap (bytesL n g) rfl (by rw [bytesL_len]; omega) HC.out (bytesL_one _ _) (by unfold maxLen; omega) (by omega) (by simp) ?_; intro v' w2 ho2 hg2 hv2; simp only [Nat.zero_add, List.nil_append] at ho2)
  go_ret
  exact ⟨_, rfl, ho2, grown_two (b := w.heap.size) gal hg2 (Nat.le_refl _)⟩
namespace Lk
theorem Sh.Ok.least {P : Sh} (h : P.Ok) : ∃ L, P.Least L := by
 refine ⟨fun i => @decide (∀ C, P.Closed C → C i = true) (Classical.propDecidable _), fun i hi hj hf => ?_, fun C hC i hi hj hL => ?_⟩
 ·refine @decide_eq_true _ (Classical.propDecidable _) (fun C hC => hC i hi hj (h.far_mono (fun k hk hkj hL => ?_) hi hj hf))
  exact @of_decide_eq_true _ (Classical.propDecidable _) hL C hC
 ·exact @of_decide_eq_true _ (Classical.propDecidable _) hL C hC
end Lk
theorem InsIn.up {N N' : Nat} {w : World} {a : Option Addr} {n c : Nat} {I : Nat → InV} (h : InsIn N w a n c I) (hN : N ≤ N') : InsIn N' w a n c I :=
 ⟨h.le, h.max, h.lie.imp id fun ⟨b, off, e, hb, hi⟩ => ⟨b, off, e, Nat.lt_of_lt_of_le hb hN, hi⟩, h.rng⟩
theorem NumIn.up {N N' : Nat} {w : World} {a : Option Addr} {n c : Nat} {M : Nat → Int} (h : NumIn N w a n c M) (hN : N ≤ N') : NumIn N' w a n c M :=
 ⟨h.le, h.max, h.lie.imp id fun ⟨b, off, e, hb, hi⟩ => ⟨b, off, e, Nat.lt_of_lt_of_le hb hN, hi⟩⟩
theorem PcsIn.up {N N' : Nat} {w : World} {a : Option Addr} {K c : Nat} {V : Nat → Lk.PcV} {A : Nat → PcA} (h : PcsIn N w a K c V A) (hN : N ≤ N') : PcsIn N' w a K c V A :=
 ⟨h.le, h.max, h.lie.imp id fun ⟨b, off, e, hb, hi⟩ => ⟨b, off, e, Nat.lt_of_lt_of_le hb hN, fun k hk => ⟨(hi k hk).c0, (hi k hk).c1, (hi k hk).c2, (hi k hk).ins.up hN, (hi k hk).mks.up hN⟩⟩⟩
theorem Rw.congr {N : Nat} {w : World} {rv : Value} {K fe : Nat} {V : Nat → Lk.PcV} {A : Nat → PtA} {S S' : Nat → Nat → Int} (h : Rw N w rv K fe V A S) (e : ∀ k, k < K → S k = S' k) : Rw N w rv K fe V A S' :=
 ⟨h.own, h.pt, fun k hk => by rw [← e k hk]; exact h.sz k hk, h.dis⟩
theorem Rw.one {N : Nat} {w w' : World} {rv : Value} {K fe : Nat} {V : Nat → Lk.PcV} {A : Nat → PtA} {S : Nat → Nat → Int} (h : Rw N w rv K fe V A S) {k : Nat} (hk : k < K) (hC : Ch w w' [(A k).T]) {s : Nat → Int} (ho : OwnN w' N (.slice (some ⟨(A k).T, 0, none⟩) (V k).n (V k).n) (V k).n s) : Rw N w' rv K fe V A (fun j => if j = k then s else S j) := by
 obtain ⟨cur, hcur⟩ := (h.sz k hk).blk
 have hTN : N ≤ (A k).T := (h.sz k hk).base _ rfl
 have hl : ∀ j, j ∈ [(A k).T] → N ≤ j := by intro j hj; simp at hj; rw [hj]; exact hTN
 refine ⟨ownsRow_ch h.own hC (fun b hb hm => ?_), fun j hj => (h.pt j hj).ch hC hl (fun hm => ?_), fun j hj => ?_, h.dis⟩
 ·simp at hm
  subst hm
  rcases h.own.2 with ⟨e1, _⟩ | ⟨g', c, cur', e1, _, e2, _⟩
  ·rw [e1] at hb; cases hb
  ·rw [e1] at hb
   simp [Value.ownBlock] at hb
   rw [hb, hcur] at e2
   simp at e2
 ·simp at hm
  have := (h.pt j hj).blk
  rw [hm, hcur] at this
  simp at this
 ·by_cases e : j = k
  ·subst e; simp only [if_true]; exact ho
  ·simp only [e, if_false]
   exact (h.sz j hj).ch hC (fun b hb hm => by simp [Value.ownBlock] at hb hm; exact h.dis j k hj hk e (hb.trans hm))
theorem own_ne {w : World} {base : Nat} {e : TypeId} {size n : Nat} {v : Value} {xs : List Value} {b : Nat} (h : w.ownsRow base e size v n xs) (hb : b < base) : v.ownBlock = none ∨ v.ownBlock ≠ some b := by
 cases hv : v.ownBlock with
 | none => exact .inl rfl
 | some g => exact .inr (by have := (World.ownsRow.lt h g hv).1; simp; omega)
def psiK (vals : List Value) (t f : Int) (fs : Value) (base : Nat) (l : List Int) (dn : Nat) (g : Nat → Int) (i : Nat) (v : Value) (w : World) : Prop :=
 if i = 3 then OwnL w base v l else if i = 5 then OwnB w base v dn g
 else if i = 11 then ∃ v3 v5, v = .agg #[.int .i64 t, v3, v5, .int .i64 f, fs] ∧ OwnL w base v3 l ∧ OwnB w base v5 dn g else v = vals.getD i undef
theorem psiK_stable {vals : List Value} {t f : Int} {fs : Value} {base : Nat} {l : List Int} {dn : Nat} {g : Nat → Int} {i : Nat} {v : Value} {w w' : World} (h : psiK vals t f fs base l dn g i v w) (gr : w.grownBy w' none) : psiK vals t f fs base l dn g i v w' := by
 unfold psiK at h ⊢
 split
 ·rename_i h1; rw [if_pos h1] at h; exact OwnL.grow h gr
 ·rename_i h1
  rw [if_neg h1] at h
  split
  ·rename_i h2; rw [if_pos h2] at h; exact World.ownsRow.kept h gr (Classical.em _)
  ·rename_i h2
   rw [if_neg h2] at h
   split
   ·rename_i h3
    rw [if_pos h3] at h
    obtain ⟨v3, v5, e, o1, o2⟩ := h
    exact ⟨v3, v5, e, OwnL.grow o1 gr, World.ownsRow.kept o2 gr (Classical.em _)⟩
   ·rename_i h3; rwa [if_neg h3] at h
theorem psiK_f {vals : List Value} {t f : Int} {fs : Value} {base : Nat} {l : List Int} {dn : Nat} {g : Nat → Int} {i : Nat} {v : Value} {w : World} (h : psiK vals t f fs base l dn g i v w) (h3 : i ≠ 3) (h5 : i ≠ 5) (h11 : i ≠ 11) : v = vals.getD i undef := by unfold psiK at h; rwa [if_neg h3, if_neg h5, if_neg h11] at h
theorem psiK_mf {vals : List Value} {t f : Int} {fs : Value} {base : Nat} {l : List Int} {dn : Nat} {g : Nat → Int} {i : Nat} {v : Value} {w : World} (h3 : i ≠ 3) (h5 : i ≠ 5) (h11 : i ≠ 11) (h : v = vals.getD i undef) : psiK vals t f fs base l dn g i v w := by unfold psiK; rwa [if_neg h3, if_neg h5, if_neg h11]
def LkRes (t : Int) (K : Nat) (V : Nat → Lk.PcV) (Ls : Nat → Nat → Bool) (dn : Nat) (dg : Nat → Int) (en : Nat) (w : World) (e : Ending) (w' : World) : Prop :=
 ((1048576 < dn ∨ 1048576 < Lk.pos (ends V (Lk.SS t V Ls)) K) ∧ e = .returned (.tuple #[.agg #[.int .i64 0, .slice none 0 0, .slice none 0 0, .int .i64 0, .slice none 0 0], .int .i64 61])) ∨
 (dn ≤ 1048576 ∧ Lk.pos (ends V (Lk.SS t V Ls)) K ≤ 1048576 ∧ ∃ cv dv TF, e = .returned (.tuple #[.agg #[.int .i64 t, cv, dv, .int .i64 (Lk.pos (ends V (Lk.SS t V Ls)) en), .slice (some ⟨TF, 0, none⟩) K K], .int .i64 0]) ∧
  OwnL w' w.heap.size cv (Lk.codeA t V (Lk.SS t V Ls) K) ∧ OwnB w' w.heap.size dv dn dg ∧ OwnN w' w.heap.size (.slice (some ⟨TF, 0, none⟩) K K) K (Lk.pos (ends V (Lk.SS t V Ls))))
theorem link_no {w : World} {t en : Int} {a da : Option Addr} {K c dn dc : Nat} (hT : ∀ W, w.grownBy W none → Calls Tryz.prog 20 #[.int .i64 t, .slice a K c] W fun e w' => e = .returned (.tuple #[.slice none 0 0, .bool false]) ∧ W.grownBy w' none) :
  Calls Tryz.prog 8 #[.int .i64 t, .slice a K c, .slice da dn dc, .int .i64 en] w fun e w' => e = .returned (.tuple #[.agg #[.int .i64 0, .slice none 0 0, .slice none 0 0, .int .i64 0, .slice none 0 0], .int .i64 60]) ∧ w.grownBy w' none := by
 have RZ : Hid ((w.alloc (Obj.cells #[.int .i64 0, .slice none 0 0, .slice none 0 0, .int .i64 0, .slice none 0 0] 32)).rowIs w.heap.size 32 5 (row5 (.int .i64 0) (.slice none 0 0) (.slice none 0 0) (.int .i64 0) (.slice none 0 0))) := row5_new _ _ _ _ _ _ _
 have HT : Hid (Calls Tryz.prog 20 #[.int .i64 t, .slice a K c] (w.alloc (Obj.cells #[.int .i64 0, .slice none 0 0, .slice none 0 0, .int .i64 0, .slice none 0 0] 32)) fun e w' => e = .returned (.tuple #[.slice none 0 0, .bool false]) ∧ (w.alloc (Obj.cells #[.int .i64 0, .slice none 0 0, .slice none 0 0, .int .i64 0, .slice none 0 0] 32)).grownBy w' none) := hT _ gal
 clear hT
 go_enter Tryz.func8, Tryz.ntmps8
 go_wp2_with (go_at_call 20; refine HT.out.mono ?_; rintro e w1 ⟨rfl, g1⟩; obtain ⟨z0, z1, z2, z3, z4, zz⟩ := rowIs_five (rowIs_grown RZ.out g1); have f0 := zz 0; have f1 := zz 1; have f2 := zz 2; have f3 := zz 3; have f4 := zz 4; clear zz)
 change bodyPost _ _ _ _ _ (put5 w1 w.heap.size (.int .i64 0) (.slice none 0 0) (.slice none 0 0) (.int .i64 0) (.slice none 0 0))
 obtain ⟨q0, q1, q2, q3, q4, qz⟩ := rowIs_five (row5_put (rowIs_grown RZ.out g1) (.int .i64 0) (.slice none 0 0) (.slice none 0 0) (.int .i64 0) (.slice none 0 0))
 refine bodyPost_ret (by simp [results, Tryz.results8, go_sem, q0, q1, q2, q3, q4]; try rfl) rfl ?_
 exact ⟨rfl, grown_two (gtr gal g1) (grown_put5 _ _ _ _ _ _ _) (Nat.le_refl _)⟩
theorem link_er {w : World} {en : Int} {a da : Option Addr} {K c dn dc : Nat} {V : Nat → Lk.PcV} {A : Nat → PcA} (h : PcsIn w.heap.size w a K c V A) (hTab : TabAt w) (hK0 : 0 < K) (hK : K ≤ 33) (hn : ∀ k, k < K → ((V k).n : Int) ≤ 8796093022208) (he : en < 0 ∨ (K : Int) ≤ en) :
  Calls Tryz.prog 8 #[.int .i64 1, .slice a K c, .slice da dn dc, .int .i64 en] w fun e w' => e = .returned (.tuple #[.agg #[.int .i64 0, .slice none 0 0, .slice none 0 0, .int .i64 0, .slice none 0 0], .int .i64 60]) ∧ w.grownBy w' none := by
 have RZ : Hid ((w.alloc (Obj.cells #[.int .i64 0, .slice none 0 0, .slice none 0 0, .int .i64 0, .slice none 0 0] 32)).rowIs w.heap.size 32 5 (row5 (.int .i64 0) (.slice none 0 0) (.slice none 0 0) (.int .i64 0) (.slice none 0 0))) := row5_new _ _ _ _ _ _ _
 have hA := World.grownBy_alloc w (Obj.cells #[.int .i64 0, .slice none 0 0, .slice none 0 0, .int .i64 0, .slice none 0 0] 32) none
 have HT : Hid (Calls Tryz.prog 20 #[.int .i64 1, .slice a K c] (w.alloc (Obj.cells #[.int .i64 0, .slice none 0 0, .slice none 0 0, .int .i64 0, .slice none 0 0] 32)) fun e w' => (w.alloc (Obj.cells #[.int .i64 0, .slice none 0 0, .slice none 0 0, .int .i64 0, .slice none 0 0] 32)).grownBy w' none ∧ ∃ rv b, e = .returned (.tuple #[rv, .bool b])) :=
  (take_r (N := w.heap.size) (h.ch (l := []) (Ch.of hA) (by simp)) (hTab.kept hA (by simp)) hTab.1 hA.size hK0 hK hn).mono (by
   rintro e w' ⟨g, ⟨_, rv, B, rfl, _⟩ | ⟨_, rfl⟩⟩
   ·exact ⟨g, rv, true, rfl⟩
   ·exact ⟨g, _, false, rfl⟩)
 have HG : Hid (∀ w1, (w.alloc (Obj.cells #[.int .i64 0, .slice none 0 0, .slice none 0 0, .int .i64 0, .slice none 0 0] 32)).grownBy w1 none → w.grownBy (put5 w1 w.heap.size (.int .i64 0) (.slice none 0 0) (.slice none 0 0) (.int .i64 0) (.slice none 0 0)) none) := fun w1 g1 => grown_two (gtr gal g1) (grown_put5 _ _ _ _ _ _ _) (Nat.le_refl _)
 clear h hTab hn hA
 rcases he with he | he
 all_goals
  go_enter Tryz.func8, Tryz.ntmps8
  go_wp2_with (go_at_call 20; refine HT.out.mono ?_; rintro e w1 ⟨g1, rv, b, rfl⟩; obtain ⟨z0, z1, z2, z3, z4, zz⟩ := rowIs_five (rowIs_grown RZ.out g1); have f0 := zz 0; have f1 := zz 1; have f2 := zz 2; have f3 := zz 3; have f4 := zz 4; clear zz; cases b)
  all_goals
   change bodyPost _ _ _ _ _ (put5 w1 w.heap.size (.int .i64 0) (.slice none 0 0) (.slice none 0 0) (.int .i64 0) (.slice none 0 0))
   obtain ⟨q0, q1, q2, q3, q4, qz⟩ := rowIs_five (row5_put (rowIs_grown RZ.out g1) (.int .i64 0) (.slice none 0 0) (.slice none 0 0) (.int .i64 0) (.slice none 0 0))
   refine bodyPost_ret (by simp [results, Tryz.results8, go_sem, q0, q1, q2, q3, q4]; try rfl) rfl ?_
   exact ⟨rfl, HG.out w1 g1⟩
theorem link_r {w : World} {a da : Option Addr} {K c dn dc en : Nat} {V : Nat → Lk.PcV} {A : Nat → PcA} {dg : Nat → Int} (h : PcsIn w.heap.size w a K c V A) (hTab : TabAt w) (hK0 : 0 < K) (hK : K ≤ 33) (hn : ∀ k, k < K → ((V k).n : Int) ≤ 8796093022208) (hB : Lk.piecesB 1 K V = true) (he : en < K)
  (hd0 : da = none → dn = 0 ∧ dc = 0) (hd : Bs w da dn dg) (hdl : ∀ b off, 0 < dn → da = some ⟨b, off, none⟩ → b < w.heap.size) (hdn : (dn : Int) ≤ 9223372036854775807) :
  Calls Tryz.prog 8 #[.int .i64 1, .slice a K c, .slice da dn dc, .int .i64 en] w fun e w' => w.grownBy w' none ∧ ∃ Ls, (∀ k, k < K → ((V k).sh 1).Least (Ls k)) ∧ LkRes 1 K V Ls dn dg en w e w' := by
 have hok : ∀ k, k < K → (V k).Ok 1 K := fun k hk => Lk.PcV.ok_of (Lk.piecesB_iff.1 hB k hk).1 (Lk.piecesB_iff.1 hB k hk).2
 have hrng : ∀ k, k < K → ∀ i, i < (V k).n → InRng ((V k).I i) := fun k hk i hi => by
  obtain ⟨b, off, _, _, hp⟩ := h.at hk
  exact hp.ins.rng i hi
 have hL0 : ∀ k, ∃ L, k < K → ((V k).sh 1).Least L := fun k => by
  by_cases hk : k < K
  ·obtain ⟨L, hL⟩ := (hok k hk).sh.least
   exact ⟨L, fun _ => hL⟩
  ·exact ⟨fun _ => false, fun h => absurd h hk⟩
 have hA := World.grownBy_alloc w (Obj.cells #[.int .i64 0, .slice none 0 0, .slice none 0 0, .int .i64 0, .slice none 0 0] 32) none
 have RZ : Hid ((w.alloc (Obj.cells #[.int .i64 0, .slice none 0 0, .slice none 0 0, .int .i64 0, .slice none 0 0] 32)).rowIs w.heap.size 32 5 (row5 (.int .i64 0) (.slice none 0 0) (.slice none 0 0) (.int .i64 0) (.slice none 0 0))) := row5_new _ _ _ _ _ _ _
 obtain ⟨w0, hw0⟩ : ∃ w0, w0 = w.alloc (Obj.cells #[.int .i64 0, .slice none 0 0, .slice none 0 0, .int .i64 0, .slice none 0 0] 32) := ⟨_, rfl⟩
 have hsz : w0.heap.size = w.heap.size + 1 := by rw [hw0]; simp
 have hN0 : w.heap.size + 1 ≤ w0.heap.size := Nat.le_of_eq hsz.symm
 rw [← hw0] at hA RZ
 have HTk : Hid (Calls Tryz.prog 20 #[.int .i64 1, .slice a K c] w0 fun e w' => w0.grownBy w' none ∧ ∃ rv B, e = .returned (.tuple #[rv, .bool true]) ∧ Rw (w.heap.size + 1) w' rv K 60 V B (fun k => ((V k).sh 1).s)) :=
  (take_r (N := w.heap.size + 1) ((h.ch (l := []) (Ch.of hA) (by simp)).up (Nat.le_succ _)) (hTab.kept hA (by simp)) (by have := hTab.1; omega) hN0 hK0 hK hn).mono (by
   rintro e w' ⟨g, ⟨_, rv, B, rfl, hr⟩ | ⟨hf, _⟩⟩
   ·exact ⟨g, rv, B, rfl, hr⟩
   ·rw [hB] at hf; cases hf)
 have hlim : ∀ Ls : Nat → Nat → Bool, Lim K V (fun k => ((V k).sh 1).size (Ls k)) := fun Ls => ⟨hn, fun k hk i hi => by have := Lk.size_le (hok k hk) (Ls k) hi; show 0 ≤ ((V k).sh 1).size (Ls k) i ∧ ((V k).sh 1).size (Ls k) i ≤ 40; omega⟩
 have hs0 : (fun k => ((V k).sh 1).size (fun _ => false)) = (fun k => ((V k).sh 1).s) := by funext k i; unfold Lk.Sh.size; simp
 have hlim0 : Lim K V (fun k => ((V k).sh 1).s) := by rw [← hs0]; exact hlim (fun _ _ => false)
 have HLg : Hid (∀ W rv B S, Rw (w.heap.size + 1) W rv K 60 V B S → Lim K V S → Calls Tryz.prog 21 #[rv] W fun e w' => e = .returned (.bool (decide (1048576 < Lk.pos (ends V S) K))) ∧ W.grownBy w' none) := fun W rv B S hr hl => large_any hr hl hK
 have HPl : Hid (∀ W rv B S, Rw (w.heap.size + 1) W rv K 60 V B S → Lim K V S → Calls Tryz.prog 23 #[rv] W fun e w' => e = .returned (.tuple #[.slice (some ⟨W.heap.size, 0, none⟩) K K, .int .i64 (Lk.pos (ends V S) K)]) ∧ OwnN w' W.heap.size (.slice (some ⟨W.heap.size, 0, none⟩) K K) K (Lk.pos (ends V S)) ∧ W.grownBy w' none) := fun W rv B S hr hl => rplaces_any hr hl hK
 have hmono : ∀ Ls : Nat → Nat → Bool, Lk.pos (ends V (fun k => ((V k).sh 1).s)) K ≤ Lk.pos (ends V (Lk.SS 1 V Ls)) K := fun Ls => by
  have := Lk.pos_le (s := ends V (fun k => ((V k).sh 1).s)) (s' := ends V (Lk.SS 1 V Ls)) (Nat.zero_le K) (fun k _ hk => by
   have := Lk.pos_le (s := ((V k).sh 1).s) (s' := Lk.SS 1 V Ls k) (Nat.zero_le (V k).n) (fun i _ hi => by
    show ((V k).sh 1).s i ≤ ((V k).sh 1).size (Ls k) i
    unfold Lk.Sh.size
    split
    ·next hh => exact (hok k hk).sh.le i hi (by simp at hh; exact hh.1)
    ·exact Int.le_refl _)
   have e0 : ∀ s : Nat → Int, Lk.pos s 0 = 0 := fun _ => rfl
   rw [e0, e0] at this
   show Lk.pos ((V k).sh 1).s (V k).n ≤ Lk.pos (Lk.SS 1 V Ls k) (V k).n
   omega)
  have e0 : ∀ s : Nat → Int, Lk.pos s 0 = 0 := fun _ => rfl
  rw [e0, e0] at this
  omega
 have HTw : Hid (∀ W, w0.grownBy W none → TabAt W) := fun W g => (hTab.kept hA (by simp)).kept g (by simp)
 have hTN := hTab.1
 obtain ⟨Ls0, hLs0⟩ : ∃ Ls0 : Nat → Nat → Bool, ∀ k, k < K → ((V k).sh 1).Least (Ls0 k) := ⟨fun k => Classical.choose (hL0 k), fun k hk => Classical.choose_spec (hL0 k) hk⟩
 have HGr : Hid (Lk.pos (ends V (fun k => ((V k).sh 1).s)) K ≤ 1048576 → ∀ W rv B S k, k < K → Rw (w.heap.size + 1) W rv K 60 V B S → S k = ((V k).sh 1).s → w0.grownBy W none → Calls Tryz.prog 22 #[.pointer (some ⟨(B k).B, 0, none⟩)] W fun e w' => e = .returned (.tuple #[]) ∧ ∃ L, ((V k).sh 1).Least L ∧ OwnN w' (w.heap.size + 1) (.slice (some ⟨(B k).T, 0, none⟩) (V k).n (V k).n) (V k).n (((V k).sh 1).size L) ∧ Ch W w' [(B k).T]) := fun hmx W rv B S k hk hr hS hg => by
  have hs : ∀ j, j < K → ∀ i, i < (V j).n → 1 ≤ ((V j).sh 1).s i ∧ ((V j).sh 1).s i ≤ 33 := fun j hj i hi => by
   have := Lk.size_le (hok j hj) (fun _ => false) hi
   have e : ((V j).sh 1).size (fun _ => false) i = ((V j).sh 1).s i := by unfold Lk.Sh.size; simp
   rw [e] at this
   exact this
  have hc := Lk.pos_count (s := ((V k).sh 1).s) (Nat.zero_le (V k).n) (fun i _ hi => (hs k hk i hi).1)
  have e0 : ∀ s : Nat → Int, Lk.pos s 0 = 0 := fun _ => rfl
  have hp0 : ∀ j, j < K → 0 ≤ ends V (fun k => ((V k).sh 1).s) j := fun j hj => by
   have := Lk.pos_mono (s := ((V j).sh 1).s) (Nat.zero_le (V j).n) (fun i _ hi => by have := (hs j hj i hi).1; omega)
   rw [e0] at this
   exact this
  have h1 := Lk.pos_mono (s := ends V (fun k => ((V k).sh 1).s)) (Nat.zero_le k) (fun j _ hj => hp0 j (by omega))
  have h2 := Lk.pos_mono (s := ends V (fun k => ((V k).sh 1).s)) (a := k + 1) (b := K) (by omega) (fun j _ hj => hp0 j hj)
  have h3 : Lk.pos (ends V (fun k => ((V k).sh 1).s)) (k + 1) = Lk.pos (ends V (fun k => ((V k).sh 1).s)) k + Lk.pos ((V k).sh 1).s (V k).n := rfl
  rw [e0] at hc h1
  have hoo := hr.sz k hk
  rw [hS] at hoo
  obtain ⟨cur, hcur⟩ := hoo.blk
  refine pgrow_r (hr.pt k hk) (HTw.out W hg) (by omega) hoo (fun e => ?_) (hok k hk) (by omega) (fun i hi => by have := hs k hk i hi; omega)
  have := (hr.pt k hk).blk
  rw [e, hcur] at this
  simp at this
 have HCo : Hid (∀ W rv B Ls TF bF, Rw (w.heap.size + 1) W rv K 60 V B (Lk.SS 1 V Ls) → OwnN W bF (.slice (some ⟨TF, 0, none⟩) K K) K (Lk.pos (ends V (Lk.SS 1 V Ls))) → (∀ k, k < K → ((V k).sh 1).Least (Ls k)) → Lk.pos (ends V (Lk.SS 1 V Ls)) K ≤ 1048576 → w0.grownBy W none → Calls Tryz.prog 24 #[rv, .slice (some ⟨TF, 0, none⟩) K K] W fun e w' => ∃ v, e = .returned v ∧ OwnL w' W.heap.size v (Lk.codeA 1 V (Lk.SS 1 V Ls) K) ∧ W.grownBy w' none) := fun W rv B Ls TF bF hr hF hl hm hg =>
  code_r hr hF ⟨hok, hl, hrng, hm⟩ (HTw.out W hg) (by omega) (by have := hg.size; omega) hK
 have HCl : Hid (dn ≤ 1048576 → ∀ W, w0.grownBy W none → Calls Tryz.prog 25 #[.slice da dn dc] W fun e w' => ∃ v, e = .returned v ∧ OwnB w' W.heap.size v dn dg ∧ W.grownBy w' none) := fun hle W hg => by
  refine sclone_any dn dc da dg W (by omega) hd0 ?_
  rcases Nat.eq_zero_or_pos dn with h0 | h0
  ·exact .inl h0
  ·obtain ⟨b, o, e, hc⟩ := hd.at h0
   exact .inr ⟨b, o, e, fun i hi => (gtr hA hg).cell (hc i hi) (by simp)⟩
 have HLim : Hid (∀ Ls : Nat → Nat → Bool, Lim K V (fun k => ((V k).sh 1).size (Ls k))) := hlim
 have HLim0 : Hid (Lim K V (fun k => ((V k).sh 1).s)) := hlim0
 have HMo : Hid (∀ Ls : Nat → Nat → Bool, Lk.pos (ends V (fun k => ((V k).sh 1).s)) K ≤ Lk.pos (ends V (Lk.SS 1 V Ls)) K) := hmono
 have HLs0 : Hid (∀ k, k < K → ((V k).sh 1).Least (Ls0 k)) := hLs0
 have HA : Hid (w.grownBy w0 none) := hA
 have HEnd : Hid (∀ W, w0.grownBy W none → ∀ v0 v1 v2 v3 v4, w.grownBy (put5 W w.heap.size v0 v1 v2 v3 v4) none ∧ (put5 W w.heap.size v0 v1 v2 v3 v4).rowIs w.heap.size 32 5 (row5 v0 v1 v2 v3 v4)) := fun W g v0 v1 v2 v3 v4 => ⟨grown_two (gtr hA g) (grown_put5 _ _ _ _ _ _ _) (Nat.le_refl _), row5_put (rowIs_grown RZ.out g) _ _ _ _ _⟩
 have hK' : (K : Int) ≤ 33 := by omega
 have hK0' : (0 : Int) < K := by omega
 have he' : (en : Int) < K := by omega
 have HW0 : Hid (w0 = w.alloc (Obj.cells #[.int .i64 0, .slice none 0 0, .slice none 0 0, .int .i64 0, .slice none 0 0] 32)) := hw0
 have hb0 : w.heap.size < w0.heap.size := by omega
 have hb1 : w0.heap.size ≤ w.heap.size + 1 := by omega
 clear h hTab hn hB hd0 hd hdl hok hrng hL0 hA hlim hlim0 hs0 hmono hLs0 hsz
 by_cases hdb : 1048576 < dn
 ·have hdb' : (1048576 : Int) < dn := by omega
  go_enter Tryz.func8, Tryz.ntmps8
  go_wp2_with (go_at_call 20; rw [← hw0]; refine HTk.out.mono ?_; rintro e w1 ⟨g1, rv, B, rfl, hr⟩; obtain ⟨z0, z1, z2, z3, z4, zz⟩ := rowIs_five (rowIs_grown RZ.out g1); have f0 := zz 0; have f1 := zz 1; have f2 := zz 2; have f3 := zz 3; have f4 := zz 4; clear zz)
  change bodyPost _ _ _ _ _ (put5 w1 w.heap.size (.int .i64 0) (.slice none 0 0) (.slice none 0 0) (.int .i64 0) (.slice none 0 0))
  obtain ⟨hgE, hrE⟩ := HEnd.out w1 g1 (.int .i64 0) (.slice none 0 0) (.slice none 0 0) (.int .i64 0) (.slice none 0 0)
  obtain ⟨q0, q1, q2, q3, q4, qz⟩ := rowIs_five hrE
  refine bodyPost_ret (by simp [results, Tryz.results8, go_sem, q0, q1, q2, q3, q4]; try rfl) rfl ?_
  exact ⟨hgE, Ls0, HLs0.out, .inl ⟨.inl hdb, rfl⟩⟩
 ·have hdb' : (dn : Int) ≤ 1048576 := by omega
  by_cases htl : 1048576 < Lk.pos (ends V (fun k => ((V k).sh 1).s)) K
  ·go_enter Tryz.func8, Tryz.ntmps8
   go_wp2_with (first
    | (go_at_call 20; rw [← hw0]; refine HTk.out.mono ?_; rintro e w1 ⟨g1, rv, B, rfl, hr⟩)
    | (go_at_call 21; refine (HLg.out _ _ _ _ hr HLim0.out).mono ?_; rintro e w2 ⟨rfl, g2⟩; rw [decide_eq_true htl]; obtain ⟨z0, z1, z2, z3, z4, zz⟩ := rowIs_five (rowIs_grown RZ.out (gtr g1 g2)); have f0 := zz 0; have f1 := zz 1; have f2 := zz 2; have f3 := zz 3; have f4 := zz 4; clear zz))
   change bodyPost _ _ _ _ _ (put5 w2 w.heap.size (.int .i64 0) (.slice none 0 0) (.slice none 0 0) (.int .i64 0) (.slice none 0 0))
   obtain ⟨hgE, hrE⟩ := HEnd.out w2 (gtr g1 g2) (.int .i64 0) (.slice none 0 0) (.slice none 0 0) (.int .i64 0) (.slice none 0 0)
   obtain ⟨q0, q1, q2, q3, q4, qz⟩ := rowIs_five hrE
   refine bodyPost_ret (by simp [results, Tryz.results8, go_sem, q0, q1, q2, q3, q4]; try rfl) rfl ?_
   exact ⟨hgE, Ls0, HLs0.out, .inl ⟨.inr (by have := HMo.out Ls0; omega), rfl⟩⟩
  ·have htl' : Lk.pos (ends V (fun k => ((V k).sh 1).s)) K ≤ 1048576 := by omega
   have HGr2 := HGr.out htl'
   have HGr3 : Hid (∀ W rv B S k, k < K → Rw (w.heap.size + 1) W rv K 60 V B S → S k = ((V k).sh 1).s → w0.grownBy W none → Calls Tryz.prog 22 #[.pointer (some ⟨(B k).B, 0, none⟩)] W fun e w' => e = .returned (.tuple #[]) ∧ ∃ L, ((V k).sh 1).Least L ∧ OwnN w' (w.heap.size + 1) (.slice (some ⟨(B k).T, 0, none⟩) (V k).n (V k).n) (V k).n (((V k).sh 1).size L) ∧ Ch W w' [(B k).T]) := HGr2
   clear HGr HGr2
   have HLgF : Hid (∀ W rv B, Rw (w.heap.size + 1) W rv K 60 V B (fun k => ((V k).sh 1).s) → Calls Tryz.prog 21 #[rv] W fun e w' => e = .returned (.bool false) ∧ W.grownBy w' none) := fun W rv B hr => by
    have := HLg.out W rv B _ hr HLim0.out
    rw [decide_eq_false htl] at this
    exact this
   go_enter Tryz.func8, Tryz.ntmps8
   go_wp2_with (first
    | (go_at_call 20; rw [← hw0]; refine HTk.out.mono ?_; rintro e w1 ⟨g1, rv, B, rfl, hr⟩; obtain ⟨ar, cr, rfl, _, _, har⟩ := hr.slice; obtain ⟨R, rfl, _⟩ := har hK0; clear har)
    | (go_at_call 21; refine (HLgF.out _ _ _ hr).mono ?_; rintro e w2 ⟨rfl, g2⟩))
   have HR2 : Hid (Rw (w.heap.size + 1) w2 (.slice (some ⟨R, 0, none⟩) K cr) K 60 V B (fun k => ((V k).sh 1).s)) := hr.grow g2
   have HG2 : Hid (w0.grownBy w2 none) := gtr g1 g2
   clear hr g1 g2 HTk hw0
   go_loopw [45] (fun i wr => ∃ (k : Nat) (Ls : Nat → Nat → Bool), i = .int .i64 k ∧ k ≤ K ∧ (∀ j, j < k → ((V j).sh 1).Least (Ls j)) ∧ Rw (w.heap.size + 1) wr (.slice (some ⟨R, 0, none⟩) K cr) K 60 V B (fun j => if j < k then ((V j).sh 1).size (Ls j) else ((V j).sh 1).s) ∧ w0.grownBy wr none) (fun i _ => K - (intOf i).toNat)
   case atStart => exact ⟨0, fun _ _ => false, rfl, Nat.zero_le _, fun j hj => by omega, HR2.out.congr (fun j hj => by simp), HG2.out⟩
   case round =>
    obtain ⟨k, Ls, rfl, hk, hle, hrw, hg⟩ := hrel
    have HLe : Hid (∀ j, j < k → ((V j).sh 1).Least (Ls j)) := hle
    have HRw : Hid (Rw (w.heap.size + 1) wr (.slice (some ⟨R, 0, none⟩) K cr) K 60 V B (fun j => if j < k then ((V j).sh 1).size (Ls j) else ((V j).sh 1).s)) := hrw
    have HG : Hid (w0.grownBy wr none) := hg
    clear hle hg
    by_cases hkK : k < K
    ·have hkK' : (k : Int) < K := by omega
     have ck : wr.cell? ⟨R, k, none⟩ = some (.pointer (some ⟨(B k).B, 0, none⟩)) := by
      obtain ⟨a', c', e, _, _, hh⟩ := hrw.slice
      simp at e
      obtain ⟨rfl, rfl⟩ := e
      obtain ⟨R', e', hc'⟩ := hh (by omega)
      simp at e'
      subst e'
      exact hc' k hkK
     have HGk := HGr3.out wr _ B _ k hkK hrw (by simp) HG.out
     have HGk2 : Hid (Calls Tryz.prog 22 #[.pointer (some ⟨(B k).B, 0, none⟩)] wr fun e w' => e = .returned (.tuple #[]) ∧ ∃ L, ((V k).sh 1).Least L ∧ OwnN w' (w.heap.size + 1) (.slice (some ⟨(B k).T, 0, none⟩) (V k).n (V k).n) (V k).n (((V k).sh 1).size L) ∧ Ch wr w' [(B k).T]) := HGk
     have hTk : w.heap.size + 1 ≤ (B k).T := (hrw.sz k hkK).base _ rfl
     clear hrw HGk
     go_wp2_with (go_at_call 22; refine HGk2.out.mono ?_; rintro e w3 ⟨rfl, L, hL, ho3, hc3⟩)
     have hR3 := HRw.out.one hkK hc3 ho3
     exact ⟨⟨k + 1, fun j => if j = k then L else Ls j, by go_num, by omega, fun j hj => by
      by_cases e : j = k
      ·subst e; simp only [if_true]; exact hL
      ·simp only [e, if_false]; exact HLe.out j (by omega), hR3.congr (fun j hj => by
       by_cases e : j = k
       ·subst e; simp
       ·by_cases h2 : j < k
        ·simp [e, h2, show j < k + 1 by omega]
        ·simp [e, h2, show ¬ j < k + 1 by omega]), ((Ch.of HG.out).trans hc3).nil (fun j hj => by simp at hj; omega)⟩, by simp [intOf]; omega⟩
    ·obtain rfl : k = K := by omega
     have HR3 : Hid (Rw (w.heap.size + 1) wr (.slice (some ⟨R, 0, none⟩) k cr) k 60 V B (Lk.SS 1 V Ls)) := hrw.congr (fun j hj => by rw [if_pos hj]; rfl)
     have HLm : Hid (Lim k V (Lk.SS 1 V Ls)) := HLim.out Ls
     clear hrw HRw
     by_cases htf : 1048576 < Lk.pos (ends V (Lk.SS 1 V Ls)) k
     ·go_wp2_with (go_at_call 21; refine (HLg.out _ _ _ _ HR3.out HLm.out).mono ?_; rintro e w2' ⟨rfl, g2⟩; rw [decide_eq_true htf]; obtain ⟨z0, z1, z2, z3, z4, zz⟩ := rowIs_five (rowIs_grown RZ.out (gtr HG.out g2)); have f0 := zz 0; have f1 := zz 1; have f2 := zz 2; have f3 := zz 3; have f4 := zz 4; clear zz)
      change bodyPost _ _ _ _ _ (put5 w2' w.heap.size (.int .i64 0) (.slice none 0 0) (.slice none 0 0) (.int .i64 0) (.slice none 0 0))
      obtain ⟨hgE, hrE⟩ := HEnd.out w2' (gtr HG.out g2) (.int .i64 0) (.slice none 0 0) (.slice none 0 0) (.int .i64 0) (.slice none 0 0)
      obtain ⟨q0, q1, q2, q3, q4, qz⟩ := rowIs_five hrE
      refine bodyPost_ret (by simp [results, Tryz.results8, go_sem, q0, q1, q2, q3, q4]; try rfl) rfl ?_
      exact ⟨hgE, Ls, HLe.out, .inl ⟨.inr htf, rfl⟩⟩
     ·have htf' : Lk.pos (ends V (Lk.SS 1 V Ls)) k ≤ 1048576 := by omega
      go_wp2_with (first
       | (go_at_call 21; refine (HLg.out _ _ _ _ HR3.out HLm.out).mono ?_; rintro e w2' ⟨rfl, g2⟩; rw [decide_eq_false htf]; have HR4 : Hid (Rw (w.heap.size + 1) w2' (.slice (some ⟨R, 0, none⟩) k cr) k 60 V B (Lk.SS 1 V Ls)) := HR3.out.grow g2; have HG4 : Hid (w0.grownBy w2' none) := gtr HG.out g2; clear g2)
       | (go_at_call 23; refine (HPl.out _ _ _ _ HR4.out HLm.out).mono ?_; rintro e w5 ⟨rfl, ho5, g5⟩))
      have cF := ho5.cell he
      have HR5 : Hid (Rw (w.heap.size + 1) w5 (.slice (some ⟨R, 0, none⟩) k cr) k 60 V B (Lk.SS 1 V Ls)) := HR4.out.grow g5
      have HG5 : Hid (w0.grownBy w5 none) := gtr HG4.out g5
      have hT5 : w.heap.size < w2'.heap.size := by have := HG4.out.size; omega
      obtain ⟨TF, hTF⟩ : ∃ TF, TF = w2'.heap.size := ⟨_, rfl⟩
      rw [← hTF] at ho5 cF ⊢
      have HF5 : Hid (OwnN w5 TF (.slice (some ⟨TF, 0, none⟩) k k) k (Lk.pos (ends V (Lk.SS 1 V Ls)))) := ho5
      have hTFw : w.heap.size < TF := by omega
      clear hTF ho5 g5 HR3 HR4 HG4 hT5
      have HCoK : Hid (∀ W, w5.grownBy W none → Calls Tryz.prog 24 #[.slice (some ⟨R, 0, none⟩) k cr, .slice (some ⟨TF, 0, none⟩) k k] W fun e w' => ∃ v, e = .returned v ∧ OwnL w' W.heap.size v (Lk.codeA 1 V (Lk.SS 1 V Ls) k) ∧ W.grownBy w' none) := fun W g => HCo.out W _ B Ls TF TF (HR5.out.grow g) (HF5.out.grow g) HLe.out htf' (gtr HG5.out g)
      have HClK : Hid (∀ W, w5.grownBy W none → Calls Tryz.prog 25 #[.slice da dn dc] W fun e w' => ∃ v, e = .returned v ∧ OwnB w' W.heap.size v dn dg ∧ W.grownBy w' none) := fun W g => HCl.out (by omega) W (gtr HG5.out g)
      obtain ⟨CL, hCL⟩ : ∃ CL, CL = Lk.codeA 1 V (Lk.SS 1 V Ls) k := ⟨_, rfl⟩
      rw [← hCL] at HCoK
      have HCL : Hid (CL = Lk.codeA 1 V (Lk.SS 1 V Ls) k) := hCL
      obtain ⟨f, hf⟩ : ∃ f, f = Lk.pos (ends V (Lk.SS 1 V Ls)) en := ⟨_, rfl⟩
      rw [← hf] at cF
      have HFe : Hid (f = Lk.pos (ends V (Lk.SS 1 V Ls)) en) := hf
      have hne : ¬ k ≤ en := by omega
      have h5s : w.heap.size ≤ w5.heap.size := by have := HG5.out.size; omega
      clear hCL hf
      refine region_src 12 (psiK [.int .i64 1, .slice (some ⟨R, 0, none⟩) k cr, .slice (some ⟨TF, 0, none⟩) k k, undef, .slice da dn dc, undef, .slice (some ⟨TF, 0, none⟩) k k, .int .i64 (en : Int), .pointer (some ⟨TF, en, none⟩), .int .i64 f, .slice (some ⟨TF, 0, none⟩) k k] 1 f (.slice (some ⟨TF, 0, none⟩) k k) w5.heap.size CL dn dg) (by kernel_rfl) (by kernel_rfl) (by kernel_rfl) (by kernel_rfl) (fun i x w0 w1 hi h g => psiK_stable h g) ?_ ?_
      ·simp only [List.take_succ_cons, List.take_zero]
       refine ⟨?_, ?_, ?_, ?_, ?_, ?_, ?_, ?_, ?_, ?_, ?_, ?_, trivial⟩
       ·intro VV W0 AA g hV hs hz
        have e00 := hz 0 (.int .i64 1) (by kernel_rfl) rfl
        refine outO_val (v := .int .i64 1) (w' := W0) ?_ gr0 (psiK_mf (by decide) (by decide) (by decide) rfl)
        simp [go_sem, e00]
       ·intro VV W0 AA g hV hs hz
        have e010 := hz 10 (.slice (some ⟨R, 0, none⟩) k cr) (by kernel_rfl) rfl
        refine outO_val (v := .slice (some ⟨R, 0, none⟩) k cr) (w' := W0) ?_ gr0 (psiK_mf (by decide) (by decide) (by decide) rfl)
        simp [go_sem, e010]
       ·intro VV W0 AA g hV hs hz
        have e014 := hz 14 (.slice (some ⟨TF, 0, none⟩) k k) (by kernel_rfl) rfl
        refine outO_val (v := .slice (some ⟨TF, 0, none⟩) k k) (w' := W0) ?_ gr0 (psiK_mf (by decide) (by decide) (by decide) rfl)
        simp [go_sem, e014]
       ·intro VV W0 AA g hV hs hz
        have gD : w5.grownBy W0 none := gdd g
        have q1 : VV 1 = .slice (some ⟨R, 0, none⟩) k cr := psiK_f (hV 1 (by kernel_rfl)) (by decide) (by decide) (by decide)
        have e1 := hs 61 1 (by kernel_rfl) (by kernel_rfl)
        have q2 : VV 2 = .slice (some ⟨TF, 0, none⟩) k k := psiK_f (hV 2 (by kernel_rfl)) (by decide) (by decide) (by decide)
        have e2 := hs 62 2 (by kernel_rfl) (by kernel_rfl)
        refine outO_call (f := 24) ?_ ((HCoK.out W0 gD).mono fun e w2 ⟨v, he, ho, hg⟩ => ⟨v, he, hg, OwnL.low ho (by have := g.size; exact this)⟩)
        simp [go_sem, q1, e1, q2, e2]
       ·intro VV W0 AA g hV hs hz
        have e02 := hz 2 (.slice da dn dc) (by kernel_rfl) rfl
        refine outO_val (v := .slice da dn dc) (w' := W0) ?_ gr0 (psiK_mf (by decide) (by decide) (by decide) rfl)
        simp [go_sem, e02]
       ·intro VV W0 AA g hV hs hz
        have gD : w5.grownBy W0 none := gdd g
        have q4 : VV 4 = .slice da dn dc := psiK_f (hV 4 (by kernel_rfl)) (by decide) (by decide) (by decide)
        have e4 := hs 64 4 (by kernel_rfl) (by kernel_rfl)
        refine outO_call (f := 25) ?_ ((HClK.out W0 gD).mono fun e w2 ⟨v, he, ho, hg⟩ => ⟨v, he, hg, World.ownsRow.mono ho (by have := g.size; exact this)⟩)
        simp [go_sem, q4, e4]
       ·intro VV W0 AA g hV hs hz
        have e014 := hz 14 (.slice (some ⟨TF, 0, none⟩) k k) (by kernel_rfl) rfl
        refine outO_val (v := .slice (some ⟨TF, 0, none⟩) k k) (w' := W0) ?_ gr0 (psiK_mf (by decide) (by decide) (by decide) rfl)
        simp [go_sem, e014]
       ·intro VV W0 AA g hV hs hz
        have e03 := hz 3 (.int .i64 (en : Int)) (by kernel_rfl) rfl
        refine outO_val (v := .int .i64 (en : Int)) (w' := W0) ?_ gr0 (psiK_mf (by decide) (by decide) (by decide) rfl)
        simp [go_sem, e03]
       ·intro VV W0 AA g hV hs hz
        have q6 : VV 6 = .slice (some ⟨TF, 0, none⟩) k k := psiK_f (hV 6 (by kernel_rfl)) (by decide) (by decide) (by decide)
        have e6 := hs 66 6 (by kernel_rfl) (by kernel_rfl)
        have q7 : VV 7 = .int .i64 (en : Int) := psiK_f (hV 7 (by kernel_rfl)) (by decide) (by decide) (by decide)
        have e7 := hs 67 7 (by kernel_rfl) (by kernel_rfl)
        refine outO_val (v := .pointer (some ⟨TF, en, none⟩)) (w' := W0) ?_ gr0 (psiK_mf (by decide) (by decide) (by decide) rfl)
        simp [go_sem, q6, e6, q7, e7, hne]
       ·intro VV W0 AA g hV hs hz
        have gD : w5.grownBy W0 none := gdd g
        have q8 : VV 8 = .pointer (some ⟨TF, en, none⟩) := psiK_f (hV 8 (by kernel_rfl)) (by decide) (by decide) (by decide)
        have e8 := hs 68 8 (by kernel_rfl) (by kernel_rfl)
        have x0 := gD.cell cF (by simp)
        refine outO_val (v := .int .i64 f) (w' := W0) ?_ gr0 (psiK_mf (by decide) (by decide) (by decide) rfl)
        simp [go_sem, q8, e8, x0]
       ·intro VV W0 AA g hV hs hz
        have e014 := hz 14 (.slice (some ⟨TF, 0, none⟩) k k) (by kernel_rfl) rfl
        refine outO_val (v := .slice (some ⟨TF, 0, none⟩) k k) (w' := W0) ?_ gr0 (psiK_mf (by decide) (by decide) (by decide) rfl)
        simp [go_sem, e014]
       ·intro VV W0 AA g hV hs hz
        have q0 : VV 0 = .int .i64 1 := psiK_f (hV 0 (by kernel_rfl)) (by decide) (by decide) (by decide)
        have e0 := hs 60 0 (by kernel_rfl) (by kernel_rfl)
        have q9 : VV 9 = .int .i64 f := psiK_f (hV 9 (by kernel_rfl)) (by decide) (by decide) (by decide)
        have e9 := hs 69 9 (by kernel_rfl) (by kernel_rfl)
        have q10 : VV 10 = .slice (some ⟨TF, 0, none⟩) k k := psiK_f (hV 10 (by kernel_rfl)) (by decide) (by decide) (by decide)
        have e10 := hs 70 10 (by kernel_rfl) (by kernel_rfl)
        have q3 : OwnL W0 w5.heap.size (VV 3) CL := hV 3 (by kernel_rfl)
        have q5 : OwnB W0 w5.heap.size (VV 5) dn dg := hV 5 (by kernel_rfl)
        obtain ⟨a3, c3, p3, _⟩ := (OwnL.toB q3).shape
        obtain ⟨a5, c5, p5, _⟩ := q5.shape
        have e3 := hs 63 3 (by kernel_rfl) (by kernel_rfl)
        have e5 := hs 65 5 (by kernel_rfl) (by kernel_rfl)
        refine outO_val (v := .agg #[.int .i64 1, VV 3, VV 5, .int .i64 f, .slice (some ⟨TF, 0, none⟩) k k]) (w' := W0) ?_ gr0 ⟨VV 3, VV 5, rfl, q3, q5⟩
        simp [go_sem, q0, e0, q9, e9, q10, e10, e3, e5, p3, p5]
      ·intro VV W0 g hV
       have gD : w5.grownBy W0 none := gdd g
       have h0 : VV 0 = .int .i64 1 := psiK_f (hV 0 (by decide)) (by decide) (by decide) (by decide)
       have h1 : VV 1 = .slice (some ⟨R, 0, none⟩) k cr := psiK_f (hV 1 (by decide)) (by decide) (by decide) (by decide)
       have h2 : VV 2 = .slice (some ⟨TF, 0, none⟩) k k := psiK_f (hV 2 (by decide)) (by decide) (by decide) (by decide)
       have h4 : VV 4 = .slice da dn dc := psiK_f (hV 4 (by decide)) (by decide) (by decide) (by decide)
       have h6 : VV 6 = .slice (some ⟨TF, 0, none⟩) k k := psiK_f (hV 6 (by decide)) (by decide) (by decide) (by decide)
       have h7 : VV 7 = .int .i64 (en : Int) := psiK_f (hV 7 (by decide)) (by decide) (by decide) (by decide)
       have h8 : VV 8 = .pointer (some ⟨TF, en, none⟩) := psiK_f (hV 8 (by decide)) (by decide) (by decide) (by decide)
       have h9 : VV 9 = .int .i64 f := psiK_f (hV 9 (by decide)) (by decide) (by decide) (by decide)
       have h10 : VV 10 = .slice (some ⟨TF, 0, none⟩) k k := psiK_f (hV 10 (by decide)) (by decide) (by decide) (by decide)
       obtain ⟨y3, h3⟩ : ∃ y, VV 3 = y := ⟨_, rfl⟩
       obtain ⟨y5, h5⟩ : ∃ y, VV 5 = y := ⟨_, rfl⟩
       obtain ⟨v3, v5, h11, o3, o5⟩ := hV 11 (by decide)
       obtain ⟨a3, c3, p3, _⟩ := (OwnL.toB o3).shape
       obtain ⟨a5, c5, p5, _⟩ := OwnB.shape o5
       subst p3
       subst p5
       have GW : w0.grownBy W0 none := gtr HG5.out gD
       have HO3 : Hid (OwnL W0 w5.heap.size (.slice a3 CL.length c3) CL) := o3
       have HO5 : Hid (OwnB W0 w5.heap.size (.slice a5 dn c5) dn dg) := o5
       have HF9 : Hid (OwnN W0 TF (.slice (some ⟨TF, 0, none⟩) k k) k (Lk.pos (ends V (Lk.SS 1 V Ls)))) := HF5.out.grow gD
       simp [frV, dstOf, Act.put, h0, h1, h2, h3, h4, h5, h6, h7, h8, h9, h10, h11]
       clear h0 h1 h2 h3 h4 h5 h6 h7 h8 h9 h10 h11 hV g gD o3 o5
       obtain ⟨z0, z1, z2, z3, z4, zz⟩ := rowIs_five (rowIs_grown RZ.out GW)
       have f0 := zz 0
       have f1 := zz 1
       have f2 := zz 2
       have f3 := zz 3
       have f4 := zz 4
       clear zz
       go_wp2_with fail
       change bodyPost _ _ _ _ _ (put5 W0 w.heap.size (.int .i64 1) (.slice a3 CL.length c3) (.slice a5 dn c5) (.int .i64 f) (.slice (some ⟨TF, 0, none⟩) k k))
       obtain ⟨hgE, hrE⟩ := HEnd.out W0 GW (.int .i64 1) (.slice a3 CL.length c3) (.slice a5 dn c5) (.int .i64 f) (.slice (some ⟨TF, 0, none⟩) k k)
       obtain ⟨q0, q1, q2, q3, q4, qz⟩ := rowIs_five hrE
       refine bodyPost_ret (by simp [results, Tryz.results8, go_sem, q0, q1, q2, q3, q4]; try rfl) rfl ?_
       have gP := grown_put5 W0 w.heap.size (.int .i64 1) (.slice a3 CL.length c3) (.slice a5 dn c5) (.int .i64 f) (.slice (some ⟨TF, 0, none⟩) k k)
       have hb5 : w.heap.size < w5.heap.size := by have := HG5.out.size; omega
       refine ⟨hgE, Ls, HLe.out, .inr ⟨by omega, htf', (.slice a3 CL.length c3), (.slice a5 dn c5), TF, by rw [← HFe.out], ?_, ?_, ?_⟩⟩
       ·rw [← HCL.out]
        exact OwnL.low (OwnL.kept HO3.out gP (own_ne HO3.out hb5)) h5s
       ·exact World.ownsRow.mono (World.ownsRow.kept HO5.out gP (own_ne HO5.out hb5)) h5s
       ·exact (HF9.out.kept gP (.inr (by simp [Value.ownBlock]; omega))).low (Nat.le_of_lt hTFw)
theorem link_ec {w : World} {en : Int} {a da : Option Addr} {K c dn dc : Nat} {V : Nat → Lk.PcV} {A : Nat → PcA} (h : PcsIn w.heap.size w a K c V A) (hTab : TabAt w) (hK0 : 0 < K) (hK : K ≤ 33) (hn : ∀ k, k < K → ((V k).n : Int) ≤ 8796093022208) (he : en < 0 ∨ (K : Int) ≤ en) :
  Calls Tryz.prog 8 #[.int .i64 2, .slice a K c, .slice da dn dc, .int .i64 en] w fun e w' => e = .returned (.tuple #[.agg #[.int .i64 0, .slice none 0 0, .slice none 0 0, .int .i64 0, .slice none 0 0], .int .i64 60]) ∧ w.grownBy w' none := by
 have RZ : Hid ((w.alloc (Obj.cells #[.int .i64 0, .slice none 0 0, .slice none 0 0, .int .i64 0, .slice none 0 0] 32)).rowIs w.heap.size 32 5 (row5 (.int .i64 0) (.slice none 0 0) (.slice none 0 0) (.int .i64 0) (.slice none 0 0))) := row5_new _ _ _ _ _ _ _
 have hA := World.grownBy_alloc w (Obj.cells #[.int .i64 0, .slice none 0 0, .slice none 0 0, .int .i64 0, .slice none 0 0] 32) none
 have HT : Hid (Calls Tryz.prog 20 #[.int .i64 2, .slice a K c] (w.alloc (Obj.cells #[.int .i64 0, .slice none 0 0, .slice none 0 0, .int .i64 0, .slice none 0 0] 32)) fun e w' => (w.alloc (Obj.cells #[.int .i64 0, .slice none 0 0, .slice none 0 0, .int .i64 0, .slice none 0 0] 32)).grownBy w' none ∧ ∃ rv b, e = .returned (.tuple #[rv, .bool b])) :=
  (take_c (N := w.heap.size) (h.ch (l := []) (Ch.of hA) (by simp)) (hTab.kept hA (by simp)) hTab.1 hA.size hK0 hK hn).mono (by
   rintro e w' ⟨g, ⟨_, rv, B, rfl, _⟩ | ⟨_, rfl⟩⟩
   ·exact ⟨g, rv, true, rfl⟩
   ·exact ⟨g, _, false, rfl⟩)
 have HG : Hid (∀ w1, (w.alloc (Obj.cells #[.int .i64 0, .slice none 0 0, .slice none 0 0, .int .i64 0, .slice none 0 0] 32)).grownBy w1 none → w.grownBy (put5 w1 w.heap.size (.int .i64 0) (.slice none 0 0) (.slice none 0 0) (.int .i64 0) (.slice none 0 0)) none) := fun w1 g1 => grown_two (gtr gal g1) (grown_put5 _ _ _ _ _ _ _) (Nat.le_refl _)
 clear h hTab hn hA
 rcases he with he | he
 all_goals
  go_enter Tryz.func8, Tryz.ntmps8
  go_wp2_with (go_at_call 20; refine HT.out.mono ?_; rintro e w1 ⟨g1, rv, b, rfl⟩; obtain ⟨z0, z1, z2, z3, z4, zz⟩ := rowIs_five (rowIs_grown RZ.out g1); have f0 := zz 0; have f1 := zz 1; have f2 := zz 2; have f3 := zz 3; have f4 := zz 4; clear zz; cases b)
  all_goals
   change bodyPost _ _ _ _ _ (put5 w1 w.heap.size (.int .i64 0) (.slice none 0 0) (.slice none 0 0) (.int .i64 0) (.slice none 0 0))
   obtain ⟨q0, q1, q2, q3, q4, qz⟩ := rowIs_five (row5_put (rowIs_grown RZ.out g1) (.int .i64 0) (.slice none 0 0) (.slice none 0 0) (.int .i64 0) (.slice none 0 0))
   refine bodyPost_ret (by simp [results, Tryz.results8, go_sem, q0, q1, q2, q3, q4]; try rfl) rfl ?_
   exact ⟨rfl, HG.out w1 g1⟩
theorem link_c {w : World} {a da : Option Addr} {K c dn dc en : Nat} {V : Nat → Lk.PcV} {A : Nat → PcA} {dg : Nat → Int} (h : PcsIn w.heap.size w a K c V A) (hTab : TabAt w) (hK0 : 0 < K) (hK : K ≤ 33) (hn : ∀ k, k < K → ((V k).n : Int) ≤ 8796093022208) (hB : Lk.piecesB 2 K V = true) (he : en < K)
  (hd0 : da = none → dn = 0 ∧ dc = 0) (hd : Bs w da dn dg) (hdl : ∀ b off, 0 < dn → da = some ⟨b, off, none⟩ → b < w.heap.size) (hdn : (dn : Int) ≤ 9223372036854775807) :
  Calls Tryz.prog 8 #[.int .i64 2, .slice a K c, .slice da dn dc, .int .i64 en] w fun e w' => w.grownBy w' none ∧ ∃ Ls, (∀ k, k < K → ((V k).sh 2).Least (Ls k)) ∧ LkRes 2 K V Ls dn dg en w e w' := by
 have hok : ∀ k, k < K → (V k).Ok 2 K := fun k hk => Lk.PcV.ok_of (Lk.piecesB_iff.1 hB k hk).1 (Lk.piecesB_iff.1 hB k hk).2
 have hrng : ∀ k, k < K → ∀ i, i < (V k).n → InRng ((V k).I i) := fun k hk i hi => by
  obtain ⟨b, off, _, _, hp⟩ := h.at hk
  exact hp.ins.rng i hi
 have hL0 : ∀ k, ∃ L, k < K → ((V k).sh 2).Least L := fun k => by
  by_cases hk : k < K
  ·obtain ⟨L, hL⟩ := (hok k hk).sh.least
   exact ⟨L, fun _ => hL⟩
  ·exact ⟨fun _ => false, fun h => absurd h hk⟩
 have hA := World.grownBy_alloc w (Obj.cells #[.int .i64 0, .slice none 0 0, .slice none 0 0, .int .i64 0, .slice none 0 0] 32) none
 have RZ : Hid ((w.alloc (Obj.cells #[.int .i64 0, .slice none 0 0, .slice none 0 0, .int .i64 0, .slice none 0 0] 32)).rowIs w.heap.size 32 5 (row5 (.int .i64 0) (.slice none 0 0) (.slice none 0 0) (.int .i64 0) (.slice none 0 0))) := row5_new _ _ _ _ _ _ _
 obtain ⟨w0, hw0⟩ : ∃ w0, w0 = w.alloc (Obj.cells #[.int .i64 0, .slice none 0 0, .slice none 0 0, .int .i64 0, .slice none 0 0] 32) := ⟨_, rfl⟩
 have hsz : w0.heap.size = w.heap.size + 1 := by rw [hw0]; simp
 have hN0 : w.heap.size + 1 ≤ w0.heap.size := Nat.le_of_eq hsz.symm
 rw [← hw0] at hA RZ
 have HTk : Hid (Calls Tryz.prog 20 #[.int .i64 2, .slice a K c] w0 fun e w' => w0.grownBy w' none ∧ ∃ rv B, e = .returned (.tuple #[rv, .bool true]) ∧ Rw (w.heap.size + 1) w' rv K 61 V B (fun k => ((V k).sh 2).s)) :=
  (take_c (N := w.heap.size + 1) ((h.ch (l := []) (Ch.of hA) (by simp)).up (Nat.le_succ _)) (hTab.kept hA (by simp)) (by have := hTab.1; omega) hN0 hK0 hK hn).mono (by
   rintro e w' ⟨g, ⟨_, rv, B, rfl, hr⟩ | ⟨hf, _⟩⟩
   ·exact ⟨g, rv, B, rfl, hr⟩
   ·rw [hB] at hf; cases hf)
 have hlim : ∀ Ls : Nat → Nat → Bool, Lim K V (fun k => ((V k).sh 2).size (Ls k)) := fun Ls => ⟨hn, fun k hk i hi => by have := Lk.size_le (hok k hk) (Ls k) hi; show 0 ≤ ((V k).sh 2).size (Ls k) i ∧ ((V k).sh 2).size (Ls k) i ≤ 40; omega⟩
 have hs0 : (fun k => ((V k).sh 2).size (fun _ => false)) = (fun k => ((V k).sh 2).s) := by funext k i; unfold Lk.Sh.size; simp
 have hlim0 : Lim K V (fun k => ((V k).sh 2).s) := by rw [← hs0]; exact hlim (fun _ _ => false)
 have HLg : Hid (∀ W rv B S, Rw (w.heap.size + 1) W rv K 61 V B S → Lim K V S → Calls Tryz.prog 21 #[rv] W fun e w' => e = .returned (.bool (decide (1048576 < Lk.pos (ends V S) K))) ∧ W.grownBy w' none) := fun W rv B S hr hl => large_any hr hl hK
 have HPl : Hid (∀ W rv B S, Rw (w.heap.size + 1) W rv K 61 V B S → Lim K V S → Calls Tryz.prog 23 #[rv] W fun e w' => e = .returned (.tuple #[.slice (some ⟨W.heap.size, 0, none⟩) K K, .int .i64 (Lk.pos (ends V S) K)]) ∧ OwnN w' W.heap.size (.slice (some ⟨W.heap.size, 0, none⟩) K K) K (Lk.pos (ends V S)) ∧ W.grownBy w' none) := fun W rv B S hr hl => rplaces_any hr hl hK
 have hmono : ∀ Ls : Nat → Nat → Bool, Lk.pos (ends V (fun k => ((V k).sh 2).s)) K ≤ Lk.pos (ends V (Lk.SS 2 V Ls)) K := fun Ls => by
  have := Lk.pos_le (s := ends V (fun k => ((V k).sh 2).s)) (s' := ends V (Lk.SS 2 V Ls)) (Nat.zero_le K) (fun k _ hk => by
   have := Lk.pos_le (s := ((V k).sh 2).s) (s' := Lk.SS 2 V Ls k) (Nat.zero_le (V k).n) (fun i _ hi => by
    show ((V k).sh 2).s i ≤ ((V k).sh 2).size (Ls k) i
    unfold Lk.Sh.size
    split
    ·next hh => exact (hok k hk).sh.le i hi (by simp at hh; exact hh.1)
    ·exact Int.le_refl _)
   have e0 : ∀ s : Nat → Int, Lk.pos s 0 = 0 := fun _ => rfl
   rw [e0, e0] at this
   show Lk.pos ((V k).sh 2).s (V k).n ≤ Lk.pos (Lk.SS 2 V Ls k) (V k).n
   omega)
  have e0 : ∀ s : Nat → Int, Lk.pos s 0 = 0 := fun _ => rfl
  rw [e0, e0] at this
  omega
 have HTw : Hid (∀ W, w0.grownBy W none → TabAt W) := fun W g => (hTab.kept hA (by simp)).kept g (by simp)
 have hTN := hTab.1
 obtain ⟨Ls0, hLs0⟩ : ∃ Ls0 : Nat → Nat → Bool, ∀ k, k < K → ((V k).sh 2).Least (Ls0 k) := ⟨fun k => Classical.choose (hL0 k), fun k hk => Classical.choose_spec (hL0 k) hk⟩
 have HGr : Hid (Lk.pos (ends V (fun k => ((V k).sh 2).s)) K ≤ 1048576 → ∀ W rv B S k, k < K → Rw (w.heap.size + 1) W rv K 61 V B S → S k = ((V k).sh 2).s → w0.grownBy W none → Calls Tryz.prog 22 #[.pointer (some ⟨(B k).B, 0, none⟩)] W fun e w' => e = .returned (.tuple #[]) ∧ ∃ L, ((V k).sh 2).Least L ∧ OwnN w' (w.heap.size + 1) (.slice (some ⟨(B k).T, 0, none⟩) (V k).n (V k).n) (V k).n (((V k).sh 2).size L) ∧ Ch W w' [(B k).T]) := fun hmx W rv B S k hk hr hS hg => by
  have hs : ∀ j, j < K → ∀ i, i < (V j).n → 1 ≤ ((V j).sh 2).s i ∧ ((V j).sh 2).s i ≤ 33 := fun j hj i hi => by
   have := Lk.size_le (hok j hj) (fun _ => false) hi
   have e : ((V j).sh 2).size (fun _ => false) i = ((V j).sh 2).s i := by unfold Lk.Sh.size; simp
   rw [e] at this
   exact this
  have hc := Lk.pos_count (s := ((V k).sh 2).s) (Nat.zero_le (V k).n) (fun i _ hi => (hs k hk i hi).1)
  have e0 : ∀ s : Nat → Int, Lk.pos s 0 = 0 := fun _ => rfl
  have hp0 : ∀ j, j < K → 0 ≤ ends V (fun k => ((V k).sh 2).s) j := fun j hj => by
   have := Lk.pos_mono (s := ((V j).sh 2).s) (Nat.zero_le (V j).n) (fun i _ hi => by have := (hs j hj i hi).1; omega)
   rw [e0] at this
   exact this
  have h1 := Lk.pos_mono (s := ends V (fun k => ((V k).sh 2).s)) (Nat.zero_le k) (fun j _ hj => hp0 j (by omega))
  have h2 := Lk.pos_mono (s := ends V (fun k => ((V k).sh 2).s)) (a := k + 1) (b := K) (by omega) (fun j _ hj => hp0 j hj)
  have h3 : Lk.pos (ends V (fun k => ((V k).sh 2).s)) (k + 1) = Lk.pos (ends V (fun k => ((V k).sh 2).s)) k + Lk.pos ((V k).sh 2).s (V k).n := rfl
  rw [e0] at hc h1
  have hoo := hr.sz k hk
  rw [hS] at hoo
  obtain ⟨cur, hcur⟩ := hoo.blk
  refine pgrow_c (hr.pt k hk) (HTw.out W hg) (by omega) hoo (fun e => ?_) (hok k hk) (by omega) (fun i hi => by have := hs k hk i hi; omega)
  have := (hr.pt k hk).blk
  rw [e, hcur] at this
  simp at this
 have HCo : Hid (∀ W rv B Ls TF bF, Rw (w.heap.size + 1) W rv K 61 V B (Lk.SS 2 V Ls) → OwnN W bF (.slice (some ⟨TF, 0, none⟩) K K) K (Lk.pos (ends V (Lk.SS 2 V Ls))) → (∀ k, k < K → ((V k).sh 2).Least (Ls k)) → Lk.pos (ends V (Lk.SS 2 V Ls)) K ≤ 1048576 → w0.grownBy W none → Calls Tryz.prog 24 #[rv, .slice (some ⟨TF, 0, none⟩) K K] W fun e w' => ∃ v, e = .returned v ∧ OwnL w' W.heap.size v (Lk.codeA 2 V (Lk.SS 2 V Ls) K) ∧ W.grownBy w' none) := fun W rv B Ls TF bF hr hF hl hm hg =>
  code_c hr hF ⟨hok, hl, hrng, hm⟩ (HTw.out W hg) (by omega) (by have := hg.size; omega) hK
 have HCl : Hid (dn ≤ 1048576 → ∀ W, w0.grownBy W none → Calls Tryz.prog 25 #[.slice da dn dc] W fun e w' => ∃ v, e = .returned v ∧ OwnB w' W.heap.size v dn dg ∧ W.grownBy w' none) := fun hle W hg => by
  refine sclone_any dn dc da dg W (by omega) hd0 ?_
  rcases Nat.eq_zero_or_pos dn with h0 | h0
  ·exact .inl h0
  ·obtain ⟨b, o, e, hc⟩ := hd.at h0
   exact .inr ⟨b, o, e, fun i hi => (gtr hA hg).cell (hc i hi) (by simp)⟩
 have HLim : Hid (∀ Ls : Nat → Nat → Bool, Lim K V (fun k => ((V k).sh 2).size (Ls k))) := hlim
 have HLim0 : Hid (Lim K V (fun k => ((V k).sh 2).s)) := hlim0
 have HMo : Hid (∀ Ls : Nat → Nat → Bool, Lk.pos (ends V (fun k => ((V k).sh 2).s)) K ≤ Lk.pos (ends V (Lk.SS 2 V Ls)) K) := hmono
 have HLs0 : Hid (∀ k, k < K → ((V k).sh 2).Least (Ls0 k)) := hLs0
 have HA : Hid (w.grownBy w0 none) := hA
 have HEnd : Hid (∀ W, w0.grownBy W none → ∀ v0 v1 v2 v3 v4, w.grownBy (put5 W w.heap.size v0 v1 v2 v3 v4) none ∧ (put5 W w.heap.size v0 v1 v2 v3 v4).rowIs w.heap.size 32 5 (row5 v0 v1 v2 v3 v4)) := fun W g v0 v1 v2 v3 v4 => ⟨grown_two (gtr hA g) (grown_put5 _ _ _ _ _ _ _) (Nat.le_refl _), row5_put (rowIs_grown RZ.out g) _ _ _ _ _⟩
 have hK' : (K : Int) ≤ 33 := by omega
 have hK0' : (0 : Int) < K := by omega
 have he' : (en : Int) < K := by omega
 have HW0 : Hid (w0 = w.alloc (Obj.cells #[.int .i64 0, .slice none 0 0, .slice none 0 0, .int .i64 0, .slice none 0 0] 32)) := hw0
 have hb0 : w.heap.size < w0.heap.size := by omega
 have hb1 : w0.heap.size ≤ w.heap.size + 1 := by omega
 clear h hTab hn hB hd0 hd hdl hok hrng hL0 hA hlim hlim0 hs0 hmono hLs0 hsz
 by_cases hdb : 1048576 < dn
 ·have hdb' : (1048576 : Int) < dn := by omega
  go_enter Tryz.func8, Tryz.ntmps8
  go_wp2_with (go_at_call 20; rw [← hw0]; refine HTk.out.mono ?_; rintro e w1 ⟨g1, rv, B, rfl, hr⟩; obtain ⟨z0, z1, z2, z3, z4, zz⟩ := rowIs_five (rowIs_grown RZ.out g1); have f0 := zz 0; have f1 := zz 1; have f2 := zz 2; have f3 := zz 3; have f4 := zz 4; clear zz)
  change bodyPost _ _ _ _ _ (put5 w1 w.heap.size (.int .i64 0) (.slice none 0 0) (.slice none 0 0) (.int .i64 0) (.slice none 0 0))
  obtain ⟨hgE, hrE⟩ := HEnd.out w1 g1 (.int .i64 0) (.slice none 0 0) (.slice none 0 0) (.int .i64 0) (.slice none 0 0)
  obtain ⟨q0, q1, q2, q3, q4, qz⟩ := rowIs_five hrE
  refine bodyPost_ret (by simp [results, Tryz.results8, go_sem, q0, q1, q2, q3, q4]; try rfl) rfl ?_
  exact ⟨hgE, Ls0, HLs0.out, .inl ⟨.inl hdb, rfl⟩⟩
 ·have hdb' : (dn : Int) ≤ 1048576 := by omega
  by_cases htl : 1048576 < Lk.pos (ends V (fun k => ((V k).sh 2).s)) K
  ·go_enter Tryz.func8, Tryz.ntmps8
   go_wp2_with (first
    | (go_at_call 20; rw [← hw0]; refine HTk.out.mono ?_; rintro e w1 ⟨g1, rv, B, rfl, hr⟩)
    | (go_at_call 21; refine (HLg.out _ _ _ _ hr HLim0.out).mono ?_; rintro e w2 ⟨rfl, g2⟩; rw [decide_eq_true htl]; obtain ⟨z0, z1, z2, z3, z4, zz⟩ := rowIs_five (rowIs_grown RZ.out (gtr g1 g2)); have f0 := zz 0; have f1 := zz 1; have f2 := zz 2; have f3 := zz 3; have f4 := zz 4; clear zz))
   change bodyPost _ _ _ _ _ (put5 w2 w.heap.size (.int .i64 0) (.slice none 0 0) (.slice none 0 0) (.int .i64 0) (.slice none 0 0))
   obtain ⟨hgE, hrE⟩ := HEnd.out w2 (gtr g1 g2) (.int .i64 0) (.slice none 0 0) (.slice none 0 0) (.int .i64 0) (.slice none 0 0)
   obtain ⟨q0, q1, q2, q3, q4, qz⟩ := rowIs_five hrE
   refine bodyPost_ret (by simp [results, Tryz.results8, go_sem, q0, q1, q2, q3, q4]; try rfl) rfl ?_
   exact ⟨hgE, Ls0, HLs0.out, .inl ⟨.inr (by have := HMo.out Ls0; omega), rfl⟩⟩
  ·have htl' : Lk.pos (ends V (fun k => ((V k).sh 2).s)) K ≤ 1048576 := by omega
   have HGr2 := HGr.out htl'
   have HGr3 : Hid (∀ W rv B S k, k < K → Rw (w.heap.size + 1) W rv K 61 V B S → S k = ((V k).sh 2).s → w0.grownBy W none → Calls Tryz.prog 22 #[.pointer (some ⟨(B k).B, 0, none⟩)] W fun e w' => e = .returned (.tuple #[]) ∧ ∃ L, ((V k).sh 2).Least L ∧ OwnN w' (w.heap.size + 1) (.slice (some ⟨(B k).T, 0, none⟩) (V k).n (V k).n) (V k).n (((V k).sh 2).size L) ∧ Ch W w' [(B k).T]) := HGr2
   clear HGr HGr2
   have HLgF : Hid (∀ W rv B, Rw (w.heap.size + 1) W rv K 61 V B (fun k => ((V k).sh 2).s) → Calls Tryz.prog 21 #[rv] W fun e w' => e = .returned (.bool false) ∧ W.grownBy w' none) := fun W rv B hr => by
    have := HLg.out W rv B _ hr HLim0.out
    rw [decide_eq_false htl] at this
    exact this
   go_enter Tryz.func8, Tryz.ntmps8
   go_wp2_with (first
    | (go_at_call 20; rw [← hw0]; refine HTk.out.mono ?_; rintro e w1 ⟨g1, rv, B, rfl, hr⟩; obtain ⟨ar, cr, rfl, _, _, har⟩ := hr.slice; obtain ⟨R, rfl, _⟩ := har hK0; clear har)
    | (go_at_call 21; refine (HLgF.out _ _ _ hr).mono ?_; rintro e w2 ⟨rfl, g2⟩))
   have HR2 : Hid (Rw (w.heap.size + 1) w2 (.slice (some ⟨R, 0, none⟩) K cr) K 61 V B (fun k => ((V k).sh 2).s)) := hr.grow g2
   have HG2 : Hid (w0.grownBy w2 none) := gtr g1 g2
   clear hr g1 g2 HTk hw0
   go_loopw [45] (fun i wr => ∃ (k : Nat) (Ls : Nat → Nat → Bool), i = .int .i64 k ∧ k ≤ K ∧ (∀ j, j < k → ((V j).sh 2).Least (Ls j)) ∧ Rw (w.heap.size + 1) wr (.slice (some ⟨R, 0, none⟩) K cr) K 61 V B (fun j => if j < k then ((V j).sh 2).size (Ls j) else ((V j).sh 2).s) ∧ w0.grownBy wr none) (fun i _ => K - (intOf i).toNat)
   case atStart => exact ⟨0, fun _ _ => false, rfl, Nat.zero_le _, fun j hj => by omega, HR2.out.congr (fun j hj => by simp), HG2.out⟩
   case round =>
    obtain ⟨k, Ls, rfl, hk, hle, hrw, hg⟩ := hrel
    have HLe : Hid (∀ j, j < k → ((V j).sh 2).Least (Ls j)) := hle
    have HRw : Hid (Rw (w.heap.size + 1) wr (.slice (some ⟨R, 0, none⟩) K cr) K 61 V B (fun j => if j < k then ((V j).sh 2).size (Ls j) else ((V j).sh 2).s)) := hrw
    have HG : Hid (w0.grownBy wr none) := hg
    clear hle hg
    by_cases hkK : k < K
    ·have hkK' : (k : Int) < K := by omega
     have ck : wr.cell? ⟨R, k, none⟩ = some (.pointer (some ⟨(B k).B, 0, none⟩)) := by
      obtain ⟨a', c', e, _, _, hh⟩ := hrw.slice
      simp at e
      obtain ⟨rfl, rfl⟩ := e
      obtain ⟨R', e', hc'⟩ := hh (by omega)
      simp at e'
      subst e'
      exact hc' k hkK
     have HGk := HGr3.out wr _ B _ k hkK hrw (by simp) HG.out
     have HGk2 : Hid (Calls Tryz.prog 22 #[.pointer (some ⟨(B k).B, 0, none⟩)] wr fun e w' => e = .returned (.tuple #[]) ∧ ∃ L, ((V k).sh 2).Least L ∧ OwnN w' (w.heap.size + 1) (.slice (some ⟨(B k).T, 0, none⟩) (V k).n (V k).n) (V k).n (((V k).sh 2).size L) ∧ Ch wr w' [(B k).T]) := HGk
     have hTk : w.heap.size + 1 ≤ (B k).T := (hrw.sz k hkK).base _ rfl
     clear hrw HGk
     go_wp2_with (go_at_call 22; refine HGk2.out.mono ?_; rintro e w3 ⟨rfl, L, hL, ho3, hc3⟩)
     have hR3 := HRw.out.one hkK hc3 ho3
     exact ⟨⟨k + 1, fun j => if j = k then L else Ls j, by go_num, by omega, fun j hj => by
      by_cases e : j = k
      ·subst e; simp only [if_true]; exact hL
      ·simp only [e, if_false]; exact HLe.out j (by omega), hR3.congr (fun j hj => by
       by_cases e : j = k
       ·subst e; simp
       ·by_cases h2 : j < k
        ·simp [e, h2, show j < k + 1 by omega]
        ·simp [e, h2, show ¬ j < k + 1 by omega]), ((Ch.of HG.out).trans hc3).nil (fun j hj => by simp at hj; omega)⟩, by simp [intOf]; omega⟩
    ·obtain rfl : k = K := by omega
     have HR3 : Hid (Rw (w.heap.size + 1) wr (.slice (some ⟨R, 0, none⟩) k cr) k 61 V B (Lk.SS 2 V Ls)) := hrw.congr (fun j hj => by rw [if_pos hj]; rfl)
     have HLm : Hid (Lim k V (Lk.SS 2 V Ls)) := HLim.out Ls
     clear hrw HRw
     by_cases htf : 1048576 < Lk.pos (ends V (Lk.SS 2 V Ls)) k
     ·go_wp2_with (go_at_call 21; refine (HLg.out _ _ _ _ HR3.out HLm.out).mono ?_; rintro e w2' ⟨rfl, g2⟩; rw [decide_eq_true htf]; obtain ⟨z0, z1, z2, z3, z4, zz⟩ := rowIs_five (rowIs_grown RZ.out (gtr HG.out g2)); have f0 := zz 0; have f1 := zz 1; have f2 := zz 2; have f3 := zz 3; have f4 := zz 4; clear zz)
      change bodyPost _ _ _ _ _ (put5 w2' w.heap.size (.int .i64 0) (.slice none 0 0) (.slice none 0 0) (.int .i64 0) (.slice none 0 0))
      obtain ⟨hgE, hrE⟩ := HEnd.out w2' (gtr HG.out g2) (.int .i64 0) (.slice none 0 0) (.slice none 0 0) (.int .i64 0) (.slice none 0 0)
      obtain ⟨q0, q1, q2, q3, q4, qz⟩ := rowIs_five hrE
      refine bodyPost_ret (by simp [results, Tryz.results8, go_sem, q0, q1, q2, q3, q4]; try rfl) rfl ?_
      exact ⟨hgE, Ls, HLe.out, .inl ⟨.inr htf, rfl⟩⟩
     ·have htf' : Lk.pos (ends V (Lk.SS 2 V Ls)) k ≤ 1048576 := by omega
      go_wp2_with (first
       | (go_at_call 21; refine (HLg.out _ _ _ _ HR3.out HLm.out).mono ?_; rintro e w2' ⟨rfl, g2⟩; rw [decide_eq_false htf]; have HR4 : Hid (Rw (w.heap.size + 1) w2' (.slice (some ⟨R, 0, none⟩) k cr) k 61 V B (Lk.SS 2 V Ls)) := HR3.out.grow g2; have HG4 : Hid (w0.grownBy w2' none) := gtr HG.out g2; clear g2)
       | (go_at_call 23; refine (HPl.out _ _ _ _ HR4.out HLm.out).mono ?_; rintro e w5 ⟨rfl, ho5, g5⟩))
      have cF := ho5.cell he
      have HR5 : Hid (Rw (w.heap.size + 1) w5 (.slice (some ⟨R, 0, none⟩) k cr) k 61 V B (Lk.SS 2 V Ls)) := HR4.out.grow g5
      have HG5 : Hid (w0.grownBy w5 none) := gtr HG4.out g5
      have hT5 : w.heap.size < w2'.heap.size := by have := HG4.out.size; omega
      obtain ⟨TF, hTF⟩ : ∃ TF, TF = w2'.heap.size := ⟨_, rfl⟩
      rw [← hTF] at ho5 cF ⊢
      have HF5 : Hid (OwnN w5 TF (.slice (some ⟨TF, 0, none⟩) k k) k (Lk.pos (ends V (Lk.SS 2 V Ls)))) := ho5
      have hTFw : w.heap.size < TF := by omega
      clear hTF ho5 g5 HR3 HR4 HG4 hT5
      have HCoK : Hid (∀ W, w5.grownBy W none → Calls Tryz.prog 24 #[.slice (some ⟨R, 0, none⟩) k cr, .slice (some ⟨TF, 0, none⟩) k k] W fun e w' => ∃ v, e = .returned v ∧ OwnL w' W.heap.size v (Lk.codeA 2 V (Lk.SS 2 V Ls) k) ∧ W.grownBy w' none) := fun W g => HCo.out W _ B Ls TF TF (HR5.out.grow g) (HF5.out.grow g) HLe.out htf' (gtr HG5.out g)
      have HClK : Hid (∀ W, w5.grownBy W none → Calls Tryz.prog 25 #[.slice da dn dc] W fun e w' => ∃ v, e = .returned v ∧ OwnB w' W.heap.size v dn dg ∧ W.grownBy w' none) := fun W g => HCl.out (by omega) W (gtr HG5.out g)
      obtain ⟨CL, hCL⟩ : ∃ CL, CL = Lk.codeA 2 V (Lk.SS 2 V Ls) k := ⟨_, rfl⟩
      rw [← hCL] at HCoK
      have HCL : Hid (CL = Lk.codeA 2 V (Lk.SS 2 V Ls) k) := hCL
      obtain ⟨f, hf⟩ : ∃ f, f = Lk.pos (ends V (Lk.SS 2 V Ls)) en := ⟨_, rfl⟩
      rw [← hf] at cF
      have HFe : Hid (f = Lk.pos (ends V (Lk.SS 2 V Ls)) en) := hf
      have hne : ¬ k ≤ en := by omega
      have h5s : w.heap.size ≤ w5.heap.size := by have := HG5.out.size; omega
      clear hCL hf
      refine region_src 12 (psiK [.int .i64 2, .slice (some ⟨R, 0, none⟩) k cr, .slice (some ⟨TF, 0, none⟩) k k, undef, .slice da dn dc, undef, .slice (some ⟨TF, 0, none⟩) k k, .int .i64 (en : Int), .pointer (some ⟨TF, en, none⟩), .int .i64 f, .slice (some ⟨TF, 0, none⟩) k k] 2 f (.slice (some ⟨TF, 0, none⟩) k k) w5.heap.size CL dn dg) (by kernel_rfl) (by kernel_rfl) (by kernel_rfl) (by kernel_rfl) (fun i x w0 w1 hi h g => psiK_stable h g) ?_ ?_
      ·simp only [List.take_succ_cons, List.take_zero]
       refine ⟨?_, ?_, ?_, ?_, ?_, ?_, ?_, ?_, ?_, ?_, ?_, ?_, trivial⟩
       ·intro VV W0 AA g hV hs hz
        have e00 := hz 0 (.int .i64 2) (by kernel_rfl) rfl
        refine outO_val (v := .int .i64 2) (w' := W0) ?_ gr0 (psiK_mf (by decide) (by decide) (by decide) rfl)
        simp [go_sem, e00]
       ·intro VV W0 AA g hV hs hz
        have e010 := hz 10 (.slice (some ⟨R, 0, none⟩) k cr) (by kernel_rfl) rfl
        refine outO_val (v := .slice (some ⟨R, 0, none⟩) k cr) (w' := W0) ?_ gr0 (psiK_mf (by decide) (by decide) (by decide) rfl)
        simp [go_sem, e010]
       ·intro VV W0 AA g hV hs hz
        have e014 := hz 14 (.slice (some ⟨TF, 0, none⟩) k k) (by kernel_rfl) rfl
        refine outO_val (v := .slice (some ⟨TF, 0, none⟩) k k) (w' := W0) ?_ gr0 (psiK_mf (by decide) (by decide) (by decide) rfl)
        simp [go_sem, e014]
       ·intro VV W0 AA g hV hs hz
        have gD : w5.grownBy W0 none := gdd g
        have q1 : VV 1 = .slice (some ⟨R, 0, none⟩) k cr := psiK_f (hV 1 (by kernel_rfl)) (by decide) (by decide) (by decide)
        have e1 := hs 61 1 (by kernel_rfl) (by kernel_rfl)
        have q2 : VV 2 = .slice (some ⟨TF, 0, none⟩) k k := psiK_f (hV 2 (by kernel_rfl)) (by decide) (by decide) (by decide)
        have e2 := hs 62 2 (by kernel_rfl) (by kernel_rfl)
        refine outO_call (f := 24) ?_ ((HCoK.out W0 gD).mono fun e w2 ⟨v, he, ho, hg⟩ => ⟨v, he, hg, OwnL.low ho (by have := g.size; exact this)⟩)
        simp [go_sem, q1, e1, q2, e2]
       ·intro VV W0 AA g hV hs hz
        have e02 := hz 2 (.slice da dn dc) (by kernel_rfl) rfl
        refine outO_val (v := .slice da dn dc) (w' := W0) ?_ gr0 (psiK_mf (by decide) (by decide) (by decide) rfl)
        simp [go_sem, e02]
       ·intro VV W0 AA g hV hs hz
        have gD : w5.grownBy W0 none := gdd g
        have q4 : VV 4 = .slice da dn dc := psiK_f (hV 4 (by kernel_rfl)) (by decide) (by decide) (by decide)
        have e4 := hs 64 4 (by kernel_rfl) (by kernel_rfl)
        refine outO_call (f := 25) ?_ ((HClK.out W0 gD).mono fun e w2 ⟨v, he, ho, hg⟩ => ⟨v, he, hg, World.ownsRow.mono ho (by have := g.size; exact this)⟩)
        simp [go_sem, q4, e4]
       ·intro VV W0 AA g hV hs hz
        have e014 := hz 14 (.slice (some ⟨TF, 0, none⟩) k k) (by kernel_rfl) rfl
        refine outO_val (v := .slice (some ⟨TF, 0, none⟩) k k) (w' := W0) ?_ gr0 (psiK_mf (by decide) (by decide) (by decide) rfl)
        simp [go_sem, e014]
       ·intro VV W0 AA g hV hs hz
        have e03 := hz 3 (.int .i64 (en : Int)) (by kernel_rfl) rfl
        refine outO_val (v := .int .i64 (en : Int)) (w' := W0) ?_ gr0 (psiK_mf (by decide) (by decide) (by decide) rfl)
        simp [go_sem, e03]
       ·intro VV W0 AA g hV hs hz
        have q6 : VV 6 = .slice (some ⟨TF, 0, none⟩) k k := psiK_f (hV 6 (by kernel_rfl)) (by decide) (by decide) (by decide)
        have e6 := hs 66 6 (by kernel_rfl) (by kernel_rfl)
        have q7 : VV 7 = .int .i64 (en : Int) := psiK_f (hV 7 (by kernel_rfl)) (by decide) (by decide) (by decide)
        have e7 := hs 67 7 (by kernel_rfl) (by kernel_rfl)
        refine outO_val (v := .pointer (some ⟨TF, en, none⟩)) (w' := W0) ?_ gr0 (psiK_mf (by decide) (by decide) (by decide) rfl)
        simp [go_sem, q6, e6, q7, e7, hne]
       ·intro VV W0 AA g hV hs hz
        have gD : w5.grownBy W0 none := gdd g
        have q8 : VV 8 = .pointer (some ⟨TF, en, none⟩) := psiK_f (hV 8 (by kernel_rfl)) (by decide) (by decide) (by decide)
        have e8 := hs 68 8 (by kernel_rfl) (by kernel_rfl)
        have x0 := gD.cell cF (by simp)
        refine outO_val (v := .int .i64 f) (w' := W0) ?_ gr0 (psiK_mf (by decide) (by decide) (by decide) rfl)
        simp [go_sem, q8, e8, x0]
       ·intro VV W0 AA g hV hs hz
        have e014 := hz 14 (.slice (some ⟨TF, 0, none⟩) k k) (by kernel_rfl) rfl
        refine outO_val (v := .slice (some ⟨TF, 0, none⟩) k k) (w' := W0) ?_ gr0 (psiK_mf (by decide) (by decide) (by decide) rfl)
        simp [go_sem, e014]
       ·intro VV W0 AA g hV hs hz
        have q0 : VV 0 = .int .i64 2 := psiK_f (hV 0 (by kernel_rfl)) (by decide) (by decide) (by decide)
        have e0 := hs 60 0 (by kernel_rfl) (by kernel_rfl)
        have q9 : VV 9 = .int .i64 f := psiK_f (hV 9 (by kernel_rfl)) (by decide) (by decide) (by decide)
        have e9 := hs 69 9 (by kernel_rfl) (by kernel_rfl)
        have q10 : VV 10 = .slice (some ⟨TF, 0, none⟩) k k := psiK_f (hV 10 (by kernel_rfl)) (by decide) (by decide) (by decide)
        have e10 := hs 70 10 (by kernel_rfl) (by kernel_rfl)
        have q3 : OwnL W0 w5.heap.size (VV 3) CL := hV 3 (by kernel_rfl)
        have q5 : OwnB W0 w5.heap.size (VV 5) dn dg := hV 5 (by kernel_rfl)
        obtain ⟨a3, c3, p3, _⟩ := (OwnL.toB q3).shape
        obtain ⟨a5, c5, p5, _⟩ := q5.shape
        have e3 := hs 63 3 (by kernel_rfl) (by kernel_rfl)
        have e5 := hs 65 5 (by kernel_rfl) (by kernel_rfl)
        refine outO_val (v := .agg #[.int .i64 2, VV 3, VV 5, .int .i64 f, .slice (some ⟨TF, 0, none⟩) k k]) (w' := W0) ?_ gr0 ⟨VV 3, VV 5, rfl, q3, q5⟩
        simp [go_sem, q0, e0, q9, e9, q10, e10, e3, e5, p3, p5]
      ·intro VV W0 g hV
       have gD : w5.grownBy W0 none := gdd g
       have h0 : VV 0 = .int .i64 2 := psiK_f (hV 0 (by decide)) (by decide) (by decide) (by decide)
       have h1 : VV 1 = .slice (some ⟨R, 0, none⟩) k cr := psiK_f (hV 1 (by decide)) (by decide) (by decide) (by decide)
       have h2 : VV 2 = .slice (some ⟨TF, 0, none⟩) k k := psiK_f (hV 2 (by decide)) (by decide) (by decide) (by decide)
       have h4 : VV 4 = .slice da dn dc := psiK_f (hV 4 (by decide)) (by decide) (by decide) (by decide)
       have h6 : VV 6 = .slice (some ⟨TF, 0, none⟩) k k := psiK_f (hV 6 (by decide)) (by decide) (by decide) (by decide)
       have h7 : VV 7 = .int .i64 (en : Int) := psiK_f (hV 7 (by decide)) (by decide) (by decide) (by decide)
       have h8 : VV 8 = .pointer (some ⟨TF, en, none⟩) := psiK_f (hV 8 (by decide)) (by decide) (by decide) (by decide)
       have h9 : VV 9 = .int .i64 f := psiK_f (hV 9 (by decide)) (by decide) (by decide) (by decide)
       have h10 : VV 10 = .slice (some ⟨TF, 0, none⟩) k k := psiK_f (hV 10 (by decide)) (by decide) (by decide) (by decide)
       obtain ⟨y3, h3⟩ : ∃ y, VV 3 = y := ⟨_, rfl⟩
       obtain ⟨y5, h5⟩ : ∃ y, VV 5 = y := ⟨_, rfl⟩
       obtain ⟨v3, v5, h11, o3, o5⟩ := hV 11 (by decide)
       obtain ⟨a3, c3, p3, _⟩ := (OwnL.toB o3).shape
       obtain ⟨a5, c5, p5, _⟩ := OwnB.shape o5
       subst p3
       subst p5
       have GW : w0.grownBy W0 none := gtr HG5.out gD
       have HO3 : Hid (OwnL W0 w5.heap.size (.slice a3 CL.length c3) CL) := o3
       have HO5 : Hid (OwnB W0 w5.heap.size (.slice a5 dn c5) dn dg) := o5
       have HF9 : Hid (OwnN W0 TF (.slice (some ⟨TF, 0, none⟩) k k) k (Lk.pos (ends V (Lk.SS 2 V Ls)))) := HF5.out.grow gD
       simp [frV, dstOf, Act.put, h0, h1, h2, h3, h4, h5, h6, h7, h8, h9, h10, h11]
       clear h0 h1 h2 h3 h4 h5 h6 h7 h8 h9 h10 h11 hV g gD o3 o5
       obtain ⟨z0, z1, z2, z3, z4, zz⟩ := rowIs_five (rowIs_grown RZ.out GW)
       have f0 := zz 0
       have f1 := zz 1
       have f2 := zz 2
       have f3 := zz 3
       have f4 := zz 4
       clear zz
       go_wp2_with fail
       change bodyPost _ _ _ _ _ (put5 W0 w.heap.size (.int .i64 2) (.slice a3 CL.length c3) (.slice a5 dn c5) (.int .i64 f) (.slice (some ⟨TF, 0, none⟩) k k))
       obtain ⟨hgE, hrE⟩ := HEnd.out W0 GW (.int .i64 2) (.slice a3 CL.length c3) (.slice a5 dn c5) (.int .i64 f) (.slice (some ⟨TF, 0, none⟩) k k)
       obtain ⟨q0, q1, q2, q3, q4, qz⟩ := rowIs_five hrE
       refine bodyPost_ret (by simp [results, Tryz.results8, go_sem, q0, q1, q2, q3, q4]; try rfl) rfl ?_
       have gP := grown_put5 W0 w.heap.size (.int .i64 2) (.slice a3 CL.length c3) (.slice a5 dn c5) (.int .i64 f) (.slice (some ⟨TF, 0, none⟩) k k)
       have hb5 : w.heap.size < w5.heap.size := by have := HG5.out.size; omega
       refine ⟨hgE, Ls, HLe.out, .inr ⟨by omega, htf', (.slice a3 CL.length c3), (.slice a5 dn c5), TF, by rw [← HFe.out], ?_, ?_, ?_⟩⟩
       ·rw [← HCL.out]
        exact OwnL.low (OwnL.kept HO3.out gP (own_ne HO3.out hb5)) h5s
       ·exact World.ownsRow.mono (World.ownsRow.kept HO5.out gP (own_ne HO5.out hb5)) h5s
       ·exact (HF9.out.kept gP (.inr (by simp [Value.ownBlock]; omega))).low (Nat.le_of_lt hTFw)
end Go.Proofs.YtkiockffejlnhaaGreatDoor
