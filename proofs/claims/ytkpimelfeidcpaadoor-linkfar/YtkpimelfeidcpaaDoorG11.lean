/- Contracts and plain facts that the walks share, text by text: RuRow5, LkLink, LkFar, CeWake, LkWake, LkFc. -/
import Derived.Test.YtkpimelfeidcpaaDoorG1
import Derived.Test.YtkpimelfeidcpaaDoorG10
import Derived.Test.YtkpimelfeidcpaaDoorG6
import Derived.Test.YtkpimelfeidcpaaDoorG7
/- Five cells in a row. -/
namespace Go.Proofs.YtkpimelfeidcpaaDoor
open Go.RowKit
set_option linter.unusedVariables false

/-- five cells in a row -/
def row5 (a b c d e : Value) : Nat → Value
  | 0 => a
  | 1 => b
  | 2 => c
  | 3 => d
  | _ => e
theorem row5_new (w : World) (a b c d e : Value) (T : TypeId) : (w.alloc (Obj.cells #[a, b, c, d, e] T)).rowIs w.heap.size T 5 (row5 a b c d e) := by
  refine ⟨_, heap_alloc_new _ _, rfl, fun i hi => ?_⟩
  have hc : i = 0 ∨ i = 1 ∨ i = 2 ∨ i = 3 ∨ i = 4 := by omega
  rcases hc with rfl | rfl | rfl | rfl | rfl <;> rfl
theorem rowIs_grown {w w' : World} {b n : Nat} {T : TypeId} {f : Nat → Value} (h : w.rowIs b T n f) (g : w.grownBy w' none) : w'.rowIs b T n f := h.of_block (g.block _ h.lt (by simp))
theorem rowIs_five {w : World} {b : Nat} {T : TypeId} {a0 a1 a2 a3 a4 : Value} (h : w.rowIs b T 5 (row5 a0 a1 a2 a3 a4)) : w.cell? ⟨b, 0, none⟩ = some a0 ∧ w.cell? ⟨b, 1, none⟩ = some a1 ∧ w.cell? ⟨b, 2, none⟩ = some a2 ∧ w.cell? ⟨b, 3, none⟩ = some a3 ∧ w.cell? ⟨b, 4, none⟩ = some a4 ∧ ∀ k, w.frozen? ⟨b, k, none⟩ = false :=
  ⟨h.cell (i := 0) (by decide), h.cell (i := 1) (by decide), h.cell (i := 2) (by decide), h.cell (i := 3) (by decide), h.cell (i := 4) (by decide), h.frozen⟩
/-- five cells stored one behind the other -/
def put5 (W : World) (R : Nat) (a b c d e : Value) : World := ((((W.setCell ⟨R, 0, none⟩ a).setCell ⟨R, 1, none⟩ b).setCell ⟨R, 2, none⟩ c).setCell ⟨R, 3, none⟩ d).setCell ⟨R, 4, none⟩ e
theorem grown_put5 (W : World) (R : Nat) (a b c d e : Value) : W.grownBy (put5 W R a b c d e) (some R) :=
  grown_trans (grown_trans (grown_trans (grown_trans (grown_setCell _ _ _ _) (grown_setCell _ _ _ _)) (grown_setCell _ _ _ _)) (grown_setCell _ _ _ _)) (grown_setCell _ _ _ _)
theorem row5_put {W : World} {R : Nat} {T : TypeId} {f : Nat → Value} (h : W.rowIs R T 5 f) (a b c d e : Value) : (put5 W R a b c d e).rowIs R T 5 (row5 a b c d e) :=
  (((((h.set 0 a).set 1 b).set 2 c).set 3 d).set 4 e).congr fun i hi => by
    have hc : i = 0 ∨ i = 1 ∨ i = 2 ∨ i = 3 ∨ i = 4 := by omega
    rcases hc with rfl | rfl | rfl | rfl | rfl <;> rfl
end Go.Proofs.YtkpimelfeidcpaaDoor

/- link.Link whole. -/
namespace Go.Proofs.YtkpimelfeidcpaaDoor
open Go.RowKit
set_option linter.unusedVariables false

theorem snil_eq (w : World) : (binOp .eql 29 (.slice none 0 0) (.slice none 0 0)).run Tryd.prog w = .ok (.bool true) w := by kernel_rfl
theorem snil_ne (ad : Addr) (n cap : Nat) (w : World) : (binOp .eql 29 (.slice (some ad) n cap) (.slice none 0 0)).run Tryd.prog w = .ok (.bool false) w := by kernel_rfl
set_option maxRecDepth 100000 in
set_option maxHeartbeats 4000000 in
theorem sclone_any (n cap : Nat) (ao : Option Addr) (g : Nat → Int) (w : World) (hn : (n : Int) ≤ 1048576) (h0 : ao = none → n = 0 ∧ cap = 0) (ha : Bs w ao n g) :
    Calls Tryd.prog 13 #[.slice ao n cap] w fun e w' => ∃ v, e = .returned v ∧ OwnB w' w.heap.size v n g ∧ w.grownBy w' none := by
  obtain ⟨i, hi, hz0, hz1, hz2⟩ := info_parts info_u8
  have e1 := snil_eq
  have e2 := snil_ne
  cases ao with
  | none =>
    obtain ⟨rfl, rfl⟩ := h0 rfl
    go_enter Tryd.func13, Tryd.ntmps13
    go_wp2
    go_ret
    exact ⟨_, rfl, World.ownsRow_nil _ _ _ _, World.grownBy.refl _ _⟩
  | some ad =>
    have HC : Hid (∀ j u, (bytesL n g)[j]? = some u → (w.alloc (.cells #[] 5)).cell? (ad.add j) = some u) := by
      intro j u hu
      obtain ⟨hj, rfl⟩ := bytesL_get hu
      obtain ⟨b, o, e, hc⟩ := ha.at (by omega)
      injection e with e
      subst e
      rw [add_none]
      exact (World.grownBy_alloc _ _ none).cell (hc j hj) (by simp)
    have HL : Hid ((w.alloc (.cells #[] 5)).ownsRow w.heap.size 5 1 (.slice (some ⟨w.heap.size, 0, none⟩) 0 0) 0 []) := OwnL.lit w w.heap.size [] (Nat.le_refl _) (Nat.zero_le _)
    clear ha h0
    go_enter Tryd.func13, Tryd.ntmps13
    go_wp2_with (at_builtin; refine wpList_append_own _ rfl _ _ 29 rfl w.heap.size 5 i (.int .u8 0) 1 1 Tryd.underlying29 hi hz0 hz1 hz2 rfl (by decide) _ 0 [] rfl HL.out ad n cap (bytesL n g) rfl (by rw [bytesL_len]; omega) HC.out (bytesL_one _ _) (by unfold maxLen; omega) (by omega) (by simp) ?_; intro v' w2 ho2 hg2 hv2; simp only [Nat.zero_add, List.nil_append] at ho2)
    go_ret
    exact ⟨_, rfl, ho2, grown_two (b := w.heap.size) (World.grownBy_alloc _ _ _) hg2 (Nat.le_refl _)⟩
namespace Lk
/-- there is a least way -/
theorem Sh.Ok.least {P : Sh} (h : P.Ok) : ∃ L, P.Least L := by
  refine ⟨fun i => @decide (∀ C, P.Closed C → C i = true) (Classical.propDecidable _), fun i hi hj hf => ?_, fun C hC i hi hj hL => ?_⟩
  · refine @decide_eq_true _ (Classical.propDecidable _) (fun C hC => hC i hi hj (h.far_mono (fun k hk hkj hL => ?_) hi hj hf))
    exact @of_decide_eq_true _ (Classical.propDecidable _) hL C hC
  · exact @of_decide_eq_true _ (Classical.propDecidable _) hL C hC
end Lk
theorem InsIn.up {N N' : Nat} {w : World} {a : Option Addr} {n c : Nat} {I : Nat → InV} (h : InsIn N w a n c I) (hN : N ≤ N') : InsIn N' w a n c I :=
  ⟨h.le, h.max, h.lie.imp id fun ⟨b, off, e, hb, hi⟩ => ⟨b, off, e, Nat.lt_of_lt_of_le hb hN, hi⟩, h.rng⟩
theorem NumIn.up {N N' : Nat} {w : World} {a : Option Addr} {n c : Nat} {M : Nat → Int} (h : NumIn N w a n c M) (hN : N ≤ N') : NumIn N' w a n c M :=
  ⟨h.le, h.max, h.lie.imp id fun ⟨b, off, e, hb, hi⟩ => ⟨b, off, e, Nat.lt_of_lt_of_le hb hN, hi⟩⟩
theorem PcsIn.up {N N' : Nat} {w : World} {a : Option Addr} {K c : Nat} {V : Nat → Lk.PcV} {A : Nat → PcA} (h : PcsIn N w a K c V A) (hN : N ≤ N') : PcsIn N' w a K c V A :=
  ⟨h.le, h.max, h.lie.imp id fun ⟨b, off, e, hb, hi⟩ => ⟨b, off, e, Nat.lt_of_lt_of_le hb hN, fun k hk => ⟨(hi k hk).c0, (hi k hk).c1, (hi k hk).c2, (hi k hk).ins.up hN, (hi k hk).mks.up hN⟩⟩⟩
theorem Rw.congr {N : Nat} {w : World} {rv : Value} {K fe : Nat} {V : Nat → Lk.PcV} {A : Nat → PtA} {S S' : Nat → Nat → Int} (h : Rw N w rv K fe V A S) (e : ∀ k, k < K → S k = S' k) : Rw N w rv K fe V A S' :=
  ⟨h.own, h.pt, fun k hk => by rw [← e k hk]; exact h.sz k hk, h.dis⟩
/-- one part's sizes turned -/
theorem Rw.one {N : Nat} {w w' : World} {rv : Value} {K fe : Nat} {V : Nat → Lk.PcV} {A : Nat → PtA} {S : Nat → Nat → Int} (h : Rw N w rv K fe V A S) {k : Nat} (hk : k < K) (hC : Ch w w' [(A k).T]) {s : Nat → Int} (ho : OwnN w' N (.slice (some ⟨(A k).T, 0, none⟩) (V k).n (V k).n) (V k).n s) : Rw N w' rv K fe V A (fun j => if j = k then s else S j) := by
  obtain ⟨cur, hcur⟩ := (h.sz k hk).blk
  have hTN : N ≤ (A k).T := (h.sz k hk).base _ rfl
  have hl : ∀ j, j ∈ [(A k).T] → N ≤ j := by intro j hj; simp at hj; rw [hj]; exact hTN
  refine ⟨ownsRow_ch h.own hC (fun b hb hm => ?_), fun j hj => (h.pt j hj).ch hC hl (fun hm => ?_), fun j hj => ?_, h.dis⟩
  · simp at hm
    subst hm
    rcases h.own.2 with ⟨e1, _⟩ | ⟨g', c, cur', e1, _, e2, _⟩
    · rw [e1] at hb; cases hb
    · rw [e1] at hb
      simp [Value.ownBlock] at hb
      rw [hb, hcur] at e2
      simp at e2
  · simp at hm
    have := (h.pt j hj).blk
    rw [hm, hcur] at this
    simp at this
  · by_cases e : j = k
    · subst e; simp only [if_true]; exact ho
    · simp only [e, if_false]
      exact (h.sz j hj).ch hC (fun b hb hm => by simp [Value.ownBlock] at hb hm; exact h.dis j k hj hk e (hb.trans hm))
theorem own_ne {w : World} {base : Nat} {e : TypeId} {size n : Nat} {v : Value} {xs : List Value} {b : Nat} (h : w.ownsRow base e size v n xs) (hb : b < base) : v.ownBlock = none ∨ v.ownBlock ≠ some b := by
  cases hv : v.ownBlock with
  | none => exact .inl rfl
  | some g => exact .inr (by have := (World.ownsRow.lt h g hv).1; simp; omega)
/-- what the last region's operations tell -/
def psiK (vals : List Value) (t f : Int) (fs : Value) (base : Nat) (l : List Int) (dn : Nat) (g : Nat → Int) (i : Nat) (v : Value) (w : World) : Prop :=
  if i = 3 then OwnL w base v l else if i = 5 then OwnB w base v dn g
  else if i = 11 then ∃ v3 v5, v = .agg #[.int .i64 t, v3, v5, .int .i64 f, fs] ∧ OwnL w base v3 l ∧ OwnB w base v5 dn g else v = vals.getD i undef
theorem psiK_stable {vals : List Value} {t f : Int} {fs : Value} {base : Nat} {l : List Int} {dn : Nat} {g : Nat → Int} {i : Nat} {v : Value} {w w' : World} (h : psiK vals t f fs base l dn g i v w) (gr : w.grownBy w' none) : psiK vals t f fs base l dn g i v w' := by
  unfold psiK at h ⊢
  split
  · rename_i h1; rw [if_pos h1] at h; exact OwnL.grow h gr
  · rename_i h1
    rw [if_neg h1] at h
    split
    · rename_i h2; rw [if_pos h2] at h; exact World.ownsRow.kept h gr (Classical.em _)
    · rename_i h2
      rw [if_neg h2] at h
      split
      · rename_i h3
        rw [if_pos h3] at h
        obtain ⟨v3, v5, e, o1, o2⟩ := h
        exact ⟨v3, v5, e, OwnL.grow o1 gr, World.ownsRow.kept o2 gr (Classical.em _)⟩
      · rename_i h3; rwa [if_neg h3] at h
theorem psiK_f {vals : List Value} {t f : Int} {fs : Value} {base : Nat} {l : List Int} {dn : Nat} {g : Nat → Int} {i : Nat} {v : Value} {w : World} (h : psiK vals t f fs base l dn g i v w) (h3 : i ≠ 3) (h5 : i ≠ 5) (h11 : i ≠ 11) : v = vals.getD i undef := by unfold psiK at h; rwa [if_neg h3, if_neg h5, if_neg h11] at h
theorem psiK_mf {vals : List Value} {t f : Int} {fs : Value} {base : Nat} {l : List Int} {dn : Nat} {g : Nat → Int} {i : Nat} {v : Value} {w : World} (h3 : i ≠ 3) (h5 : i ≠ 5) (h11 : i ≠ 11) (h : v = vals.getD i undef) : psiK vals t f fs base l dn g i v w := by unfold psiK; rwa [if_neg h3, if_neg h5, if_neg h11]
/-- what Link tells, behind what may be: too large, or an image -/
def LkRes (t : Int) (K : Nat) (V : Nat → Lk.PcV) (Ls : Nat → Nat → Bool) (dn : Nat) (dg : Nat → Int) (en : Nat) (w : World) (e : Ending) (w' : World) : Prop :=
  ((1048576 < dn ∨ 1048576 < Lk.pos (ends V (Lk.SS t V Ls)) K) ∧ e = .returned (.tuple #[.agg #[.int .i64 0, .slice none 0 0, .slice none 0 0, .int .i64 0, .slice none 0 0], .int .i64 61])) ∨
  (dn ≤ 1048576 ∧ Lk.pos (ends V (Lk.SS t V Ls)) K ≤ 1048576 ∧ ∃ cv dv TF, e = .returned (.tuple #[.agg #[.int .i64 t, cv, dv, .int .i64 (Lk.pos (ends V (Lk.SS t V Ls)) en), .slice (some ⟨TF, 0, none⟩) K K], .int .i64 0]) ∧
    OwnL w' w.heap.size cv (Lk.codeA t V (Lk.SS t V Ls) K) ∧ OwnB w' w.heap.size dv dn dg ∧ OwnN w' w.heap.size (.slice (some ⟨TF, 0, none⟩) K K) K (Lk.pos (ends V (Lk.SS t V Ls))))
set_option maxRecDepth 100000 in
set_option maxHeartbeats 32000000 in
theorem link_r {w : World} {a da : Option Addr} {K c dn dc en : Nat} {V : Nat → Lk.PcV} {A : Nat → PcA} {dg : Nat → Int} (h : PcsIn w.heap.size w a K c V A) (hTab : TabAt w) (hK0 : 0 < K) (hK : K ≤ 33) (hn : ∀ k, k < K → ((V k).n : Int) ≤ 8796093022208) (hB : Lk.piecesB 1 K V = true) (he : en < K)
    (hd0 : da = none → dn = 0 ∧ dc = 0) (hd : Bs w da dn dg) (hdl : ∀ b off, 0 < dn → da = some ⟨b, off, none⟩ → b < w.heap.size) (hdn : (dn : Int) ≤ 9223372036854775807) :
    Calls Tryd.prog 5 #[.int .i64 1, .slice a K c, .slice da dn dc, .int .i64 en] w fun e w' => w.grownBy w' none ∧ ∃ Ls, (∀ k, k < K → ((V k).sh 1).Least (Ls k)) ∧ LkRes 1 K V Ls dn dg en w e w' := by
  have hok : ∀ k, k < K → (V k).Ok 1 K := fun k hk => Lk.PcV.ok_of (Lk.piecesB_iff.1 hB k hk).1 (Lk.piecesB_iff.1 hB k hk).2
  have hrng : ∀ k, k < K → ∀ i, i < (V k).n → InRng ((V k).I i) := fun k hk i hi => by
    obtain ⟨b, off, _, _, hp⟩ := h.at hk
    exact hp.ins.rng i hi
  have hL0 : ∀ k, ∃ L, k < K → ((V k).sh 1).Least L := fun k => by
    by_cases hk : k < K
    · obtain ⟨L, hL⟩ := (hok k hk).sh.least
      exact ⟨L, fun _ => hL⟩
    · exact ⟨fun _ => false, fun h => absurd h hk⟩
  have hA := World.grownBy_alloc w (Obj.cells #[.int .i64 0, .slice none 0 0, .slice none 0 0, .int .i64 0, .slice none 0 0] 31) none
  have RZ : Hid ((w.alloc (Obj.cells #[.int .i64 0, .slice none 0 0, .slice none 0 0, .int .i64 0, .slice none 0 0] 31)).rowIs w.heap.size 31 5 (row5 (.int .i64 0) (.slice none 0 0) (.slice none 0 0) (.int .i64 0) (.slice none 0 0))) := row5_new _ _ _ _ _ _ _
  obtain ⟨w0, hw0⟩ : ∃ w0, w0 = w.alloc (Obj.cells #[.int .i64 0, .slice none 0 0, .slice none 0 0, .int .i64 0, .slice none 0 0] 31) := ⟨_, rfl⟩
  have hsz : w0.heap.size = w.heap.size + 1 := by rw [hw0]; simp
  have hN0 : w.heap.size + 1 ≤ w0.heap.size := Nat.le_of_eq hsz.symm
  rw [← hw0] at hA RZ
  have HTk : Hid (Calls Tryd.prog 8 #[.int .i64 1, .slice a K c] w0 fun e w' => w0.grownBy w' none ∧ ∃ rv B, e = .returned (.tuple #[rv, .bool true]) ∧ Rw (w.heap.size + 1) w' rv K 26 V B (fun k => ((V k).sh 1).s)) :=
    (take_r (N := w.heap.size + 1) ((h.ch (l := []) (Ch.of hA) (by simp)).up (Nat.le_succ _)) (hTab.kept hA (by simp)) (by have := hTab.1; omega) hN0 hK0 hK hn).mono (by
      rintro e w' ⟨g, ⟨_, rv, B, rfl, hr⟩ | ⟨hf, _⟩⟩
      · exact ⟨g, rv, B, rfl, hr⟩
      · rw [hB] at hf; cases hf)
  have hlim : ∀ Ls : Nat → Nat → Bool, Lim K V (fun k => ((V k).sh 1).size (Ls k)) := fun Ls => ⟨hn, fun k hk i hi => by have := Lk.size_le (hok k hk) (Ls k) hi; show 0 ≤ ((V k).sh 1).size (Ls k) i ∧ ((V k).sh 1).size (Ls k) i ≤ 40; omega⟩
  have hs0 : (fun k => ((V k).sh 1).size (fun _ => false)) = (fun k => ((V k).sh 1).s) := by funext k i; unfold Lk.Sh.size; simp
  have hlim0 : Lim K V (fun k => ((V k).sh 1).s) := by rw [← hs0]; exact hlim (fun _ _ => false)
  have HLg : Hid (∀ W rv B S, Rw (w.heap.size + 1) W rv K 26 V B S → Lim K V S → Calls Tryd.prog 9 #[rv] W fun e w' => e = .returned (.bool (decide (1048576 < Lk.pos (ends V S) K))) ∧ W.grownBy w' none) := fun W rv B S hr hl => large_any hr hl hK
  have HPl : Hid (∀ W rv B S, Rw (w.heap.size + 1) W rv K 26 V B S → Lim K V S → Calls Tryd.prog 11 #[rv] W fun e w' => e = .returned (.tuple #[.slice (some ⟨W.heap.size, 0, none⟩) K K, .int .i64 (Lk.pos (ends V S) K)]) ∧ OwnN w' W.heap.size (.slice (some ⟨W.heap.size, 0, none⟩) K K) K (Lk.pos (ends V S)) ∧ W.grownBy w' none) := fun W rv B S hr hl => rplaces_any hr hl hK
  have hmono : ∀ Ls : Nat → Nat → Bool, Lk.pos (ends V (fun k => ((V k).sh 1).s)) K ≤ Lk.pos (ends V (Lk.SS 1 V Ls)) K := fun Ls => by
    have := Lk.pos_le (s := ends V (fun k => ((V k).sh 1).s)) (s' := ends V (Lk.SS 1 V Ls)) (Nat.zero_le K) (fun k _ hk => by
      have := Lk.pos_le (s := ((V k).sh 1).s) (s' := Lk.SS 1 V Ls k) (Nat.zero_le (V k).n) (fun i _ hi => by
        show ((V k).sh 1).s i ≤ ((V k).sh 1).size (Ls k) i
        unfold Lk.Sh.size
        split
        · next hh => exact (hok k hk).sh.le i hi (by simp at hh; exact hh.1)
        · exact Int.le_refl _)
      have e0 : ∀ s : Nat → Int, Lk.pos s 0 = 0 := fun _ => rfl
      rw [e0, e0] at this
      show Lk.pos ((V k).sh 1).s (V k).n ≤ Lk.pos (Lk.SS 1 V Ls k) (V k).n
      omega)
    have e0 : ∀ s : Nat → Int, Lk.pos s 0 = 0 := fun _ => rfl
    rw [e0, e0] at this
    omega
  have HTw : Hid (∀ W, w0.grownBy W none → TabAt W) := fun W g => (hTab.kept hA (by simp)).kept g (by simp)
  have hTN := hTab.1
  obtain ⟨Ls0, hLs0⟩ : ∃ Ls0 : Nat → Nat → Bool, ∀ k, k < K → ((V k).sh 1).Least (Ls0 k) := ⟨fun k => Classical.choose (hL0 k), fun k hk => Classical.choose_spec (hL0 k) hk⟩
  have HGr : Hid (Lk.pos (ends V (fun k => ((V k).sh 1).s)) K ≤ 1048576 → ∀ W rv B S k, k < K → Rw (w.heap.size + 1) W rv K 26 V B S → S k = ((V k).sh 1).s → w0.grownBy W none → Calls Tryd.prog 10 #[.pointer (some ⟨(B k).B, 0, none⟩)] W fun e w' => e = .returned (.tuple #[]) ∧ ∃ L, ((V k).sh 1).Least L ∧ OwnN w' (w.heap.size + 1) (.slice (some ⟨(B k).T, 0, none⟩) (V k).n (V k).n) (V k).n (((V k).sh 1).size L) ∧ Ch W w' [(B k).T]) := fun hmx W rv B S k hk hr hS hg => by
    have hs : ∀ j, j < K → ∀ i, i < (V j).n → 1 ≤ ((V j).sh 1).s i ∧ ((V j).sh 1).s i ≤ 33 := fun j hj i hi => by
      have := Lk.size_le (hok j hj) (fun _ => false) hi
      have e : ((V j).sh 1).size (fun _ => false) i = ((V j).sh 1).s i := by unfold Lk.Sh.size; simp
      rw [e] at this
      exact this
    have hc := Lk.pos_count (s := ((V k).sh 1).s) (Nat.zero_le (V k).n) (fun i _ hi => (hs k hk i hi).1)
    have e0 : ∀ s : Nat → Int, Lk.pos s 0 = 0 := fun _ => rfl
    have hp0 : ∀ j, j < K → 0 ≤ ends V (fun k => ((V k).sh 1).s) j := fun j hj => by
      have := Lk.pos_mono (s := ((V j).sh 1).s) (Nat.zero_le (V j).n) (fun i _ hi => by have := (hs j hj i hi).1; omega)
      rw [e0] at this
      exact this
    have h1 := Lk.pos_mono (s := ends V (fun k => ((V k).sh 1).s)) (Nat.zero_le k) (fun j _ hj => hp0 j (by omega))
    have h2 := Lk.pos_mono (s := ends V (fun k => ((V k).sh 1).s)) (a := k + 1) (b := K) (by omega) (fun j _ hj => hp0 j hj)
    have h3 : Lk.pos (ends V (fun k => ((V k).sh 1).s)) (k + 1) = Lk.pos (ends V (fun k => ((V k).sh 1).s)) k + Lk.pos ((V k).sh 1).s (V k).n := rfl
    rw [e0] at hc h1
    have hoo := hr.sz k hk
    rw [hS] at hoo
    obtain ⟨cur, hcur⟩ := hoo.blk
    refine pgrow_r (hr.pt k hk) (HTw.out W hg) (by omega) hoo (fun e => ?_) (hok k hk) (by omega) (fun i hi => by have := hs k hk i hi; omega)
    have := (hr.pt k hk).blk
    rw [e, hcur] at this
    simp at this
  have HCo : Hid (∀ W rv B Ls TF bF, Rw (w.heap.size + 1) W rv K 26 V B (Lk.SS 1 V Ls) → OwnN W bF (.slice (some ⟨TF, 0, none⟩) K K) K (Lk.pos (ends V (Lk.SS 1 V Ls))) → (∀ k, k < K → ((V k).sh 1).Least (Ls k)) → Lk.pos (ends V (Lk.SS 1 V Ls)) K ≤ 1048576 → w0.grownBy W none → Calls Tryd.prog 12 #[rv, .slice (some ⟨TF, 0, none⟩) K K] W fun e w' => ∃ v, e = .returned v ∧ OwnL w' W.heap.size v (Lk.codeA 1 V (Lk.SS 1 V Ls) K) ∧ W.grownBy w' none) := fun W rv B Ls TF bF hr hF hl hm hg =>
    code_r hr hF ⟨hok, hl, hrng, hm⟩ (HTw.out W hg) (by omega) (by have := hg.size; omega) hK
  have HCl : Hid (dn ≤ 1048576 → ∀ W, w0.grownBy W none → Calls Tryd.prog 13 #[.slice da dn dc] W fun e w' => ∃ v, e = .returned v ∧ OwnB w' W.heap.size v dn dg ∧ W.grownBy w' none) := fun hle W hg => by
    refine sclone_any dn dc da dg W (by omega) hd0 ?_
    rcases Nat.eq_zero_or_pos dn with h0 | h0
    · exact .inl h0
    · obtain ⟨b, o, e, hc⟩ := hd.at h0
      exact .inr ⟨b, o, e, fun i hi => (grown_trans hA hg).cell (hc i hi) (by simp)⟩
  have HLim : Hid (∀ Ls : Nat → Nat → Bool, Lim K V (fun k => ((V k).sh 1).size (Ls k))) := hlim
  have HLim0 : Hid (Lim K V (fun k => ((V k).sh 1).s)) := hlim0
  have HMo : Hid (∀ Ls : Nat → Nat → Bool, Lk.pos (ends V (fun k => ((V k).sh 1).s)) K ≤ Lk.pos (ends V (Lk.SS 1 V Ls)) K) := hmono
  have HLs0 : Hid (∀ k, k < K → ((V k).sh 1).Least (Ls0 k)) := hLs0
  have HA : Hid (w.grownBy w0 none) := hA
  have HEnd : Hid (∀ W, w0.grownBy W none → ∀ v0 v1 v2 v3 v4, w.grownBy (put5 W w.heap.size v0 v1 v2 v3 v4) none ∧ (put5 W w.heap.size v0 v1 v2 v3 v4).rowIs w.heap.size 31 5 (row5 v0 v1 v2 v3 v4)) := fun W g v0 v1 v2 v3 v4 => ⟨grown_two (grown_trans hA g) (grown_put5 _ _ _ _ _ _ _) (Nat.le_refl _), row5_put (rowIs_grown RZ.out g) _ _ _ _ _⟩
  have hK' : (K : Int) ≤ 33 := by omega
  have hK0' : (0 : Int) < K := by omega
  have he' : (en : Int) < K := by omega
  have HW0 : Hid (w0 = w.alloc (Obj.cells #[.int .i64 0, .slice none 0 0, .slice none 0 0, .int .i64 0, .slice none 0 0] 31)) := hw0
  have hb0 : w.heap.size < w0.heap.size := by omega
  have hb1 : w0.heap.size ≤ w.heap.size + 1 := by omega
  clear h hTab hn hB hd0 hd hdl hok hrng hL0 hA hlim hlim0 hs0 hmono hLs0 hsz
  by_cases hdb : 1048576 < dn
  · have hdb' : (1048576 : Int) < dn := by omega
    go_enter Tryd.func5, Tryd.ntmps5
    go_wp2_with (go_at_call 8; rw [← hw0]; refine HTk.out.mono ?_; rintro e w1 ⟨g1, rv, B, rfl, hr⟩; obtain ⟨z0, z1, z2, z3, z4, zz⟩ := rowIs_five (rowIs_grown RZ.out g1); have f0 := zz 0; have f1 := zz 1; have f2 := zz 2; have f3 := zz 3; have f4 := zz 4; clear zz)
    change bodyPost _ _ _ _ _ (put5 w1 w.heap.size (.int .i64 0) (.slice none 0 0) (.slice none 0 0) (.int .i64 0) (.slice none 0 0))
    obtain ⟨hgE, hrE⟩ := HEnd.out w1 g1 (.int .i64 0) (.slice none 0 0) (.slice none 0 0) (.int .i64 0) (.slice none 0 0)
    obtain ⟨q0, q1, q2, q3, q4, qz⟩ := rowIs_five hrE
    refine bodyPost_ret (by simp [results, Tryd.results5, go_sem, q0, q1, q2, q3, q4]; try rfl) rfl ?_
    exact ⟨hgE, Ls0, HLs0.out, .inl ⟨.inl hdb, rfl⟩⟩
  · have hdb' : (dn : Int) ≤ 1048576 := by omega
    by_cases htl : 1048576 < Lk.pos (ends V (fun k => ((V k).sh 1).s)) K
    · go_enter Tryd.func5, Tryd.ntmps5
      go_wp2_with (first
        | (go_at_call 8; rw [← hw0]; refine HTk.out.mono ?_; rintro e w1 ⟨g1, rv, B, rfl, hr⟩)
        | (go_at_call 9; refine (HLg.out _ _ _ _ hr HLim0.out).mono ?_; rintro e w2 ⟨rfl, g2⟩; rw [decide_eq_true htl]; obtain ⟨z0, z1, z2, z3, z4, zz⟩ := rowIs_five (rowIs_grown RZ.out (grown_trans g1 g2)); have f0 := zz 0; have f1 := zz 1; have f2 := zz 2; have f3 := zz 3; have f4 := zz 4; clear zz))
      change bodyPost _ _ _ _ _ (put5 w2 w.heap.size (.int .i64 0) (.slice none 0 0) (.slice none 0 0) (.int .i64 0) (.slice none 0 0))
      obtain ⟨hgE, hrE⟩ := HEnd.out w2 (grown_trans g1 g2) (.int .i64 0) (.slice none 0 0) (.slice none 0 0) (.int .i64 0) (.slice none 0 0)
      obtain ⟨q0, q1, q2, q3, q4, qz⟩ := rowIs_five hrE
      refine bodyPost_ret (by simp [results, Tryd.results5, go_sem, q0, q1, q2, q3, q4]; try rfl) rfl ?_
      exact ⟨hgE, Ls0, HLs0.out, .inl ⟨.inr (by have := HMo.out Ls0; omega), rfl⟩⟩
    · have htl' : Lk.pos (ends V (fun k => ((V k).sh 1).s)) K ≤ 1048576 := by omega
      have HGr2 := HGr.out htl'
      have HGr3 : Hid (∀ W rv B S k, k < K → Rw (w.heap.size + 1) W rv K 26 V B S → S k = ((V k).sh 1).s → w0.grownBy W none → Calls Tryd.prog 10 #[.pointer (some ⟨(B k).B, 0, none⟩)] W fun e w' => e = .returned (.tuple #[]) ∧ ∃ L, ((V k).sh 1).Least L ∧ OwnN w' (w.heap.size + 1) (.slice (some ⟨(B k).T, 0, none⟩) (V k).n (V k).n) (V k).n (((V k).sh 1).size L) ∧ Ch W w' [(B k).T]) := HGr2
      clear HGr HGr2
      have HLgF : Hid (∀ W rv B, Rw (w.heap.size + 1) W rv K 26 V B (fun k => ((V k).sh 1).s) → Calls Tryd.prog 9 #[rv] W fun e w' => e = .returned (.bool false) ∧ W.grownBy w' none) := fun W rv B hr => by
        have := HLg.out W rv B _ hr HLim0.out
        rw [decide_eq_false htl] at this
        exact this
      go_enter Tryd.func5, Tryd.ntmps5
      go_wp2_with (first
        | (go_at_call 8; rw [← hw0]; refine HTk.out.mono ?_; rintro e w1 ⟨g1, rv, B, rfl, hr⟩; obtain ⟨ar, cr, rfl, _, _, har⟩ := hr.slice; obtain ⟨R, rfl, _⟩ := har hK0; clear har)
        | (go_at_call 9; refine (HLgF.out _ _ _ hr).mono ?_; rintro e w2 ⟨rfl, g2⟩))
      have HR2 : Hid (Rw (w.heap.size + 1) w2 (.slice (some ⟨R, 0, none⟩) K cr) K 26 V B (fun k => ((V k).sh 1).s)) := hr.grow g2
      have HG2 : Hid (w0.grownBy w2 none) := grown_trans g1 g2
      clear hr g1 g2 HTk hw0
      go_loopw [45] (fun i wr => ∃ (k : Nat) (Ls : Nat → Nat → Bool), i = .int .i64 k ∧ k ≤ K ∧ (∀ j, j < k → ((V j).sh 1).Least (Ls j)) ∧ Rw (w.heap.size + 1) wr (.slice (some ⟨R, 0, none⟩) K cr) K 26 V B (fun j => if j < k then ((V j).sh 1).size (Ls j) else ((V j).sh 1).s) ∧ w0.grownBy wr none) (fun i _ => K - (intOf i).toNat)
      case atStart => exact ⟨0, fun _ _ => false, rfl, Nat.zero_le _, fun j hj => by omega, HR2.out.congr (fun j hj => by simp), HG2.out⟩
      case round =>
        obtain ⟨k, Ls, rfl, hk, hle, hrw, hg⟩ := hrel
        have HLe : Hid (∀ j, j < k → ((V j).sh 1).Least (Ls j)) := hle
        have HRw : Hid (Rw (w.heap.size + 1) wr (.slice (some ⟨R, 0, none⟩) K cr) K 26 V B (fun j => if j < k then ((V j).sh 1).size (Ls j) else ((V j).sh 1).s)) := hrw
        have HG : Hid (w0.grownBy wr none) := hg
        clear hle hg
        by_cases hkK : k < K
        · have hkK' : (k : Int) < K := by omega
          have ck : wr.cell? ⟨R, k, none⟩ = some (.pointer (some ⟨(B k).B, 0, none⟩)) := by
            obtain ⟨a', c', e, _, _, hh⟩ := hrw.slice
            simp at e
            obtain ⟨rfl, rfl⟩ := e
            obtain ⟨R', e', hc'⟩ := hh (by omega)
            simp at e'
            subst e'
            exact hc' k hkK
          have HGk := HGr3.out wr _ B _ k hkK hrw (by simp) HG.out
          have HGk2 : Hid (Calls Tryd.prog 10 #[.pointer (some ⟨(B k).B, 0, none⟩)] wr fun e w' => e = .returned (.tuple #[]) ∧ ∃ L, ((V k).sh 1).Least L ∧ OwnN w' (w.heap.size + 1) (.slice (some ⟨(B k).T, 0, none⟩) (V k).n (V k).n) (V k).n (((V k).sh 1).size L) ∧ Ch wr w' [(B k).T]) := HGk
          have hTk : w.heap.size + 1 ≤ (B k).T := (hrw.sz k hkK).base _ rfl
          clear hrw HGk
          go_wp2_with (go_at_call 10; refine HGk2.out.mono ?_; rintro e w3 ⟨rfl, L, hL, ho3, hc3⟩)
          have hR3 := HRw.out.one hkK hc3 ho3
          exact ⟨⟨k + 1, fun j => if j = k then L else Ls j, by go_num, by omega, fun j hj => by
            by_cases e : j = k
            · subst e; simp only [if_true]; exact hL
            · simp only [e, if_false]; exact HLe.out j (by omega), hR3.congr (fun j hj => by
              by_cases e : j = k
              · subst e; simp
              · by_cases h2 : j < k
                · simp [e, h2, show j < k + 1 by omega]
                · simp [e, h2, show ¬ j < k + 1 by omega]), ((Ch.of HG.out).trans hc3).nil (fun j hj => by simp at hj; omega)⟩, by simp [intOf]; omega⟩
        · obtain rfl : k = K := by omega
          have HR3 : Hid (Rw (w.heap.size + 1) wr (.slice (some ⟨R, 0, none⟩) k cr) k 26 V B (Lk.SS 1 V Ls)) := hrw.congr (fun j hj => by rw [if_pos hj]; rfl)
          have HLm : Hid (Lim k V (Lk.SS 1 V Ls)) := HLim.out Ls
          clear hrw HRw
          by_cases htf : 1048576 < Lk.pos (ends V (Lk.SS 1 V Ls)) k
          · go_wp2_with (go_at_call 9; refine (HLg.out _ _ _ _ HR3.out HLm.out).mono ?_; rintro e w2' ⟨rfl, g2⟩; rw [decide_eq_true htf]; obtain ⟨z0, z1, z2, z3, z4, zz⟩ := rowIs_five (rowIs_grown RZ.out (grown_trans HG.out g2)); have f0 := zz 0; have f1 := zz 1; have f2 := zz 2; have f3 := zz 3; have f4 := zz 4; clear zz)
            change bodyPost _ _ _ _ _ (put5 w2' w.heap.size (.int .i64 0) (.slice none 0 0) (.slice none 0 0) (.int .i64 0) (.slice none 0 0))
            obtain ⟨hgE, hrE⟩ := HEnd.out w2' (grown_trans HG.out g2) (.int .i64 0) (.slice none 0 0) (.slice none 0 0) (.int .i64 0) (.slice none 0 0)
            obtain ⟨q0, q1, q2, q3, q4, qz⟩ := rowIs_five hrE
            refine bodyPost_ret (by simp [results, Tryd.results5, go_sem, q0, q1, q2, q3, q4]; try rfl) rfl ?_
            exact ⟨hgE, Ls, HLe.out, .inl ⟨.inr htf, rfl⟩⟩
          · have htf' : Lk.pos (ends V (Lk.SS 1 V Ls)) k ≤ 1048576 := by omega
            go_wp2_with (first
              | (go_at_call 9; refine (HLg.out _ _ _ _ HR3.out HLm.out).mono ?_; rintro e w2' ⟨rfl, g2⟩; rw [decide_eq_false htf]; have HR4 : Hid (Rw (w.heap.size + 1) w2' (.slice (some ⟨R, 0, none⟩) k cr) k 26 V B (Lk.SS 1 V Ls)) := HR3.out.grow g2; have HG4 : Hid (w0.grownBy w2' none) := grown_trans HG.out g2; clear g2)
              | (go_at_call 11; refine (HPl.out _ _ _ _ HR4.out HLm.out).mono ?_; rintro e w5 ⟨rfl, ho5, g5⟩))
            have cF := ho5.cell he
            have HR5 : Hid (Rw (w.heap.size + 1) w5 (.slice (some ⟨R, 0, none⟩) k cr) k 26 V B (Lk.SS 1 V Ls)) := HR4.out.grow g5
            have HG5 : Hid (w0.grownBy w5 none) := grown_trans HG4.out g5
            have hT5 : w.heap.size < w2'.heap.size := by have := HG4.out.size; omega
            obtain ⟨TF, hTF⟩ : ∃ TF, TF = w2'.heap.size := ⟨_, rfl⟩
            rw [← hTF] at ho5 cF ⊢
            have HF5 : Hid (OwnN w5 TF (.slice (some ⟨TF, 0, none⟩) k k) k (Lk.pos (ends V (Lk.SS 1 V Ls)))) := ho5
            have hTFw : w.heap.size < TF := by omega
            clear hTF ho5 g5 HR3 HR4 HG4 hT5
            have HCoK : Hid (∀ W, w5.grownBy W none → Calls Tryd.prog 12 #[.slice (some ⟨R, 0, none⟩) k cr, .slice (some ⟨TF, 0, none⟩) k k] W fun e w' => ∃ v, e = .returned v ∧ OwnL w' W.heap.size v (Lk.codeA 1 V (Lk.SS 1 V Ls) k) ∧ W.grownBy w' none) := fun W g => HCo.out W _ B Ls TF TF (HR5.out.grow g) (HF5.out.grow g) HLe.out htf' (grown_trans HG5.out g)
            have HClK : Hid (∀ W, w5.grownBy W none → Calls Tryd.prog 13 #[.slice da dn dc] W fun e w' => ∃ v, e = .returned v ∧ OwnB w' W.heap.size v dn dg ∧ W.grownBy w' none) := fun W g => HCl.out (by omega) W (grown_trans HG5.out g)
            obtain ⟨CL, hCL⟩ : ∃ CL, CL = Lk.codeA 1 V (Lk.SS 1 V Ls) k := ⟨_, rfl⟩
            rw [← hCL] at HCoK
            have HCL : Hid (CL = Lk.codeA 1 V (Lk.SS 1 V Ls) k) := hCL
            obtain ⟨f, hf⟩ : ∃ f, f = Lk.pos (ends V (Lk.SS 1 V Ls)) en := ⟨_, rfl⟩
            rw [← hf] at cF
            have HFe : Hid (f = Lk.pos (ends V (Lk.SS 1 V Ls)) en) := hf
            have hne : ¬ k ≤ en := by omega
            have h5s : w.heap.size ≤ w5.heap.size := by have := HG5.out.size; omega
            clear hCL hf
            refine region_src 12 (psiK [.int .i64 1, .slice (some ⟨R, 0, none⟩) k cr, .slice (some ⟨TF, 0, none⟩) k k, undef, .slice da dn dc, undef, .slice (some ⟨TF, 0, none⟩) k k, .int .i64 (en : Int), .pointer (some ⟨TF, en, none⟩), .int .i64 f, .slice (some ⟨TF, 0, none⟩) k k] 1 f (.slice (some ⟨TF, 0, none⟩) k k) w5.heap.size CL dn dg) (by kernel_rfl) (by kernel_rfl) (by kernel_rfl) (by kernel_rfl) (fun i x w0 w1 hi h g => psiK_stable h g) ?_ ?_
            · simp only [List.take_succ_cons, List.take_zero]
              refine ⟨?_, ?_, ?_, ?_, ?_, ?_, ?_, ?_, ?_, ?_, ?_, ?_, trivial⟩
              · intro VV W0 AA g hV hs hz
                have gD : w5.grownBy W0 none := grown_trans (grown_drew (World.grownBy.refl _ none)) g
                have e00 := hz 0 (.int .i64 1) (by kernel_rfl) rfl
                clear hV hs hz
                refine outO_val (v := .int .i64 1) (w' := W0) ?_ (World.grownBy.refl _ _) (psiK_mf (by decide) (by decide) (by decide) rfl)
                simp [go_sem, e00]
              · intro VV W0 AA g hV hs hz
                have gD : w5.grownBy W0 none := grown_trans (grown_drew (World.grownBy.refl _ none)) g
                have e010 := hz 10 (.slice (some ⟨R, 0, none⟩) k cr) (by kernel_rfl) rfl
                clear hV hs hz
                refine outO_val (v := .slice (some ⟨R, 0, none⟩) k cr) (w' := W0) ?_ (World.grownBy.refl _ _) (psiK_mf (by decide) (by decide) (by decide) rfl)
                simp [go_sem, e010]
              · intro VV W0 AA g hV hs hz
                have gD : w5.grownBy W0 none := grown_trans (grown_drew (World.grownBy.refl _ none)) g
                have e014 := hz 14 (.slice (some ⟨TF, 0, none⟩) k k) (by kernel_rfl) rfl
                clear hV hs hz
                refine outO_val (v := .slice (some ⟨TF, 0, none⟩) k k) (w' := W0) ?_ (World.grownBy.refl _ _) (psiK_mf (by decide) (by decide) (by decide) rfl)
                simp [go_sem, e014]
              · intro VV W0 AA g hV hs hz
                have gD : w5.grownBy W0 none := grown_trans (grown_drew (World.grownBy.refl _ none)) g
                have q1 : VV 1 = .slice (some ⟨R, 0, none⟩) k cr := psiK_f (hV 1 (by kernel_rfl)) (by decide) (by decide) (by decide)
                have e1 := hs 61 1 (by kernel_rfl) (by kernel_rfl)
                have q2 : VV 2 = .slice (some ⟨TF, 0, none⟩) k k := psiK_f (hV 2 (by kernel_rfl)) (by decide) (by decide) (by decide)
                have e2 := hs 62 2 (by kernel_rfl) (by kernel_rfl)
                clear hV hs hz
                refine outO_call (f := 12) ?_ ((HCoK.out W0 gD).mono fun e w2 ⟨v, he, ho, hg⟩ => ⟨v, he, hg, OwnL.low ho (by have := g.size; exact this)⟩)
                simp [go_sem, q1, e1, q2, e2]
              · intro VV W0 AA g hV hs hz
                have gD : w5.grownBy W0 none := grown_trans (grown_drew (World.grownBy.refl _ none)) g
                have e02 := hz 2 (.slice da dn dc) (by kernel_rfl) rfl
                clear hV hs hz
                refine outO_val (v := .slice da dn dc) (w' := W0) ?_ (World.grownBy.refl _ _) (psiK_mf (by decide) (by decide) (by decide) rfl)
                simp [go_sem, e02]
              · intro VV W0 AA g hV hs hz
                have gD : w5.grownBy W0 none := grown_trans (grown_drew (World.grownBy.refl _ none)) g
                have q4 : VV 4 = .slice da dn dc := psiK_f (hV 4 (by kernel_rfl)) (by decide) (by decide) (by decide)
                have e4 := hs 64 4 (by kernel_rfl) (by kernel_rfl)
                clear hV hs hz
                refine outO_call (f := 13) ?_ ((HClK.out W0 gD).mono fun e w2 ⟨v, he, ho, hg⟩ => ⟨v, he, hg, World.ownsRow.mono ho (by have := g.size; exact this)⟩)
                simp [go_sem, q4, e4]
              · intro VV W0 AA g hV hs hz
                have gD : w5.grownBy W0 none := grown_trans (grown_drew (World.grownBy.refl _ none)) g
                have e014 := hz 14 (.slice (some ⟨TF, 0, none⟩) k k) (by kernel_rfl) rfl
                clear hV hs hz
                refine outO_val (v := .slice (some ⟨TF, 0, none⟩) k k) (w' := W0) ?_ (World.grownBy.refl _ _) (psiK_mf (by decide) (by decide) (by decide) rfl)
                simp [go_sem, e014]
              · intro VV W0 AA g hV hs hz
                have gD : w5.grownBy W0 none := grown_trans (grown_drew (World.grownBy.refl _ none)) g
                have e03 := hz 3 (.int .i64 (en : Int)) (by kernel_rfl) rfl
                clear hV hs hz
                refine outO_val (v := .int .i64 (en : Int)) (w' := W0) ?_ (World.grownBy.refl _ _) (psiK_mf (by decide) (by decide) (by decide) rfl)
                simp [go_sem, e03]
              · intro VV W0 AA g hV hs hz
                have gD : w5.grownBy W0 none := grown_trans (grown_drew (World.grownBy.refl _ none)) g
                have q6 : VV 6 = .slice (some ⟨TF, 0, none⟩) k k := psiK_f (hV 6 (by kernel_rfl)) (by decide) (by decide) (by decide)
                have e6 := hs 66 6 (by kernel_rfl) (by kernel_rfl)
                have q7 : VV 7 = .int .i64 (en : Int) := psiK_f (hV 7 (by kernel_rfl)) (by decide) (by decide) (by decide)
                have e7 := hs 67 7 (by kernel_rfl) (by kernel_rfl)
                clear hV hs hz
                refine outO_val (v := .pointer (some ⟨TF, en, none⟩)) (w' := W0) ?_ (World.grownBy.refl _ _) (psiK_mf (by decide) (by decide) (by decide) rfl)
                simp [go_sem, q6, e6, q7, e7, hne]
              · intro VV W0 AA g hV hs hz
                have gD : w5.grownBy W0 none := grown_trans (grown_drew (World.grownBy.refl _ none)) g
                have q8 : VV 8 = .pointer (some ⟨TF, en, none⟩) := psiK_f (hV 8 (by kernel_rfl)) (by decide) (by decide) (by decide)
                have e8 := hs 68 8 (by kernel_rfl) (by kernel_rfl)
                have x0 := gD.cell cF (by simp)
                clear hV hs hz
                refine outO_val (v := .int .i64 f) (w' := W0) ?_ (World.grownBy.refl _ _) (psiK_mf (by decide) (by decide) (by decide) rfl)
                simp [go_sem, q8, e8, x0]
              · intro VV W0 AA g hV hs hz
                have gD : w5.grownBy W0 none := grown_trans (grown_drew (World.grownBy.refl _ none)) g
                have e014 := hz 14 (.slice (some ⟨TF, 0, none⟩) k k) (by kernel_rfl) rfl
                clear hV hs hz
                refine outO_val (v := .slice (some ⟨TF, 0, none⟩) k k) (w' := W0) ?_ (World.grownBy.refl _ _) (psiK_mf (by decide) (by decide) (by decide) rfl)
                simp [go_sem, e014]
              · intro VV W0 AA g hV hs hz
                have gD : w5.grownBy W0 none := grown_trans (grown_drew (World.grownBy.refl _ none)) g
                have q0 : VV 0 = .int .i64 1 := psiK_f (hV 0 (by kernel_rfl)) (by decide) (by decide) (by decide)
                have e0 := hs 60 0 (by kernel_rfl) (by kernel_rfl)
                have q9 : VV 9 = .int .i64 f := psiK_f (hV 9 (by kernel_rfl)) (by decide) (by decide) (by decide)
                have e9 := hs 69 9 (by kernel_rfl) (by kernel_rfl)
                have q10 : VV 10 = .slice (some ⟨TF, 0, none⟩) k k := psiK_f (hV 10 (by kernel_rfl)) (by decide) (by decide) (by decide)
                have e10 := hs 70 10 (by kernel_rfl) (by kernel_rfl)
                have q3 : OwnL W0 w5.heap.size (VV 3) CL := hV 3 (by kernel_rfl)
                have q5 : OwnB W0 w5.heap.size (VV 5) dn dg := hV 5 (by kernel_rfl)
                obtain ⟨a3, c3, p3, _⟩ := (OwnL.toB q3).shape
                obtain ⟨a5, c5, p5, _⟩ := q5.shape
                have e3 := hs 63 3 (by kernel_rfl) (by kernel_rfl)
                have e5 := hs 65 5 (by kernel_rfl) (by kernel_rfl)
                clear hV hs hz
                refine outO_val (v := .agg #[.int .i64 1, VV 3, VV 5, .int .i64 f, .slice (some ⟨TF, 0, none⟩) k k]) (w' := W0) ?_ (World.grownBy.refl _ _) ⟨VV 3, VV 5, rfl, q3, q5⟩
                simp [go_sem, q0, e0, q9, e9, q10, e10, e3, e5, p3, p5]
            · intro VV W0 g hV
              have gD : w5.grownBy W0 none := grown_trans (grown_drew (World.grownBy.refl _ none)) g
              have h0 : VV 0 = .int .i64 1 := psiK_f (hV 0 (by decide)) (by decide) (by decide) (by decide)
              have h1 : VV 1 = .slice (some ⟨R, 0, none⟩) k cr := psiK_f (hV 1 (by decide)) (by decide) (by decide) (by decide)
              have h2 : VV 2 = .slice (some ⟨TF, 0, none⟩) k k := psiK_f (hV 2 (by decide)) (by decide) (by decide) (by decide)
              have h4 : VV 4 = .slice da dn dc := psiK_f (hV 4 (by decide)) (by decide) (by decide) (by decide)
              have h6 : VV 6 = .slice (some ⟨TF, 0, none⟩) k k := psiK_f (hV 6 (by decide)) (by decide) (by decide) (by decide)
              have h7 : VV 7 = .int .i64 (en : Int) := psiK_f (hV 7 (by decide)) (by decide) (by decide) (by decide)
              have h8 : VV 8 = .pointer (some ⟨TF, en, none⟩) := psiK_f (hV 8 (by decide)) (by decide) (by decide) (by decide)
              have h9 : VV 9 = .int .i64 f := psiK_f (hV 9 (by decide)) (by decide) (by decide) (by decide)
              have h10 : VV 10 = .slice (some ⟨TF, 0, none⟩) k k := psiK_f (hV 10 (by decide)) (by decide) (by decide) (by decide)
              obtain ⟨y3, h3⟩ : ∃ y, VV 3 = y := ⟨_, rfl⟩
              obtain ⟨y5, h5⟩ : ∃ y, VV 5 = y := ⟨_, rfl⟩
              obtain ⟨v3, v5, h11, o3, o5⟩ := hV 11 (by decide)
              obtain ⟨a3, c3, p3, _⟩ := (OwnL.toB o3).shape
              obtain ⟨a5, c5, p5, _⟩ := OwnB.shape o5
              subst p3
              subst p5
              have GW : w0.grownBy W0 none := grown_trans HG5.out gD
              have HO3 : Hid (OwnL W0 w5.heap.size (.slice a3 CL.length c3) CL) := o3
              have HO5 : Hid (OwnB W0 w5.heap.size (.slice a5 dn c5) dn dg) := o5
              have HF9 : Hid (OwnN W0 TF (.slice (some ⟨TF, 0, none⟩) k k) k (Lk.pos (ends V (Lk.SS 1 V Ls)))) := HF5.out.grow gD
              simp [frV, dstOf, Act.put, h0, h1, h2, h3, h4, h5, h6, h7, h8, h9, h10, h11]
              clear h0 h1 h2 h3 h4 h5 h6 h7 h8 h9 h10 h11 hV g gD o3 o5
              obtain ⟨z0, z1, z2, z3, z4, zz⟩ := rowIs_five (rowIs_grown RZ.out GW)
              have f0 := zz 0
              have f1 := zz 1
              have f2 := zz 2
              have f3 := zz 3
              have f4 := zz 4
              clear zz
              go_wp2_with fail
              change bodyPost _ _ _ _ _ (put5 W0 w.heap.size (.int .i64 1) (.slice a3 CL.length c3) (.slice a5 dn c5) (.int .i64 f) (.slice (some ⟨TF, 0, none⟩) k k))
              obtain ⟨hgE, hrE⟩ := HEnd.out W0 GW (.int .i64 1) (.slice a3 CL.length c3) (.slice a5 dn c5) (.int .i64 f) (.slice (some ⟨TF, 0, none⟩) k k)
              obtain ⟨q0, q1, q2, q3, q4, qz⟩ := rowIs_five hrE
              refine bodyPost_ret (by simp [results, Tryd.results5, go_sem, q0, q1, q2, q3, q4]; try rfl) rfl ?_
              have gP := grown_put5 W0 w.heap.size (.int .i64 1) (.slice a3 CL.length c3) (.slice a5 dn c5) (.int .i64 f) (.slice (some ⟨TF, 0, none⟩) k k)
              have hb5 : w.heap.size < w5.heap.size := by have := HG5.out.size; omega
              refine ⟨hgE, Ls, HLe.out, .inr ⟨by omega, htf', (.slice a3 CL.length c3), (.slice a5 dn c5), TF, by rw [← HFe.out], ?_, ?_, ?_⟩⟩
              · rw [← HCL.out]
                exact OwnL.low (OwnL.kept HO3.out gP (own_ne HO3.out hb5)) h5s
              · exact World.ownsRow.mono (World.ownsRow.kept HO5.out gP (own_ne HO5.out hb5)) h5s
              · exact (HF9.out.kept gP (.inr (by simp [Value.ownBlock]; omega))).low (Nat.le_of_lt hTFw)
set_option maxRecDepth 100000 in
set_option maxHeartbeats 32000000 in
theorem link_c {w : World} {a da : Option Addr} {K c dn dc en : Nat} {V : Nat → Lk.PcV} {A : Nat → PcA} {dg : Nat → Int} (h : PcsIn w.heap.size w a K c V A) (hTab : TabAt w) (hK0 : 0 < K) (hK : K ≤ 33) (hn : ∀ k, k < K → ((V k).n : Int) ≤ 8796093022208) (hB : Lk.piecesB 2 K V = true) (he : en < K)
    (hd0 : da = none → dn = 0 ∧ dc = 0) (hd : Bs w da dn dg) (hdl : ∀ b off, 0 < dn → da = some ⟨b, off, none⟩ → b < w.heap.size) (hdn : (dn : Int) ≤ 9223372036854775807) :
    Calls Tryd.prog 5 #[.int .i64 2, .slice a K c, .slice da dn dc, .int .i64 en] w fun e w' => w.grownBy w' none ∧ ∃ Ls, (∀ k, k < K → ((V k).sh 2).Least (Ls k)) ∧ LkRes 2 K V Ls dn dg en w e w' := by
  have hok : ∀ k, k < K → (V k).Ok 2 K := fun k hk => Lk.PcV.ok_of (Lk.piecesB_iff.1 hB k hk).1 (Lk.piecesB_iff.1 hB k hk).2
  have hrng : ∀ k, k < K → ∀ i, i < (V k).n → InRng ((V k).I i) := fun k hk i hi => by
    obtain ⟨b, off, _, _, hp⟩ := h.at hk
    exact hp.ins.rng i hi
  have hL0 : ∀ k, ∃ L, k < K → ((V k).sh 2).Least L := fun k => by
    by_cases hk : k < K
    · obtain ⟨L, hL⟩ := (hok k hk).sh.least
      exact ⟨L, fun _ => hL⟩
    · exact ⟨fun _ => false, fun h => absurd h hk⟩
  have hA := World.grownBy_alloc w (Obj.cells #[.int .i64 0, .slice none 0 0, .slice none 0 0, .int .i64 0, .slice none 0 0] 31) none
  have RZ : Hid ((w.alloc (Obj.cells #[.int .i64 0, .slice none 0 0, .slice none 0 0, .int .i64 0, .slice none 0 0] 31)).rowIs w.heap.size 31 5 (row5 (.int .i64 0) (.slice none 0 0) (.slice none 0 0) (.int .i64 0) (.slice none 0 0))) := row5_new _ _ _ _ _ _ _
  obtain ⟨w0, hw0⟩ : ∃ w0, w0 = w.alloc (Obj.cells #[.int .i64 0, .slice none 0 0, .slice none 0 0, .int .i64 0, .slice none 0 0] 31) := ⟨_, rfl⟩
  have hsz : w0.heap.size = w.heap.size + 1 := by rw [hw0]; simp
  have hN0 : w.heap.size + 1 ≤ w0.heap.size := Nat.le_of_eq hsz.symm
  rw [← hw0] at hA RZ
  have HTk : Hid (Calls Tryd.prog 8 #[.int .i64 2, .slice a K c] w0 fun e w' => w0.grownBy w' none ∧ ∃ rv B, e = .returned (.tuple #[rv, .bool true]) ∧ Rw (w.heap.size + 1) w' rv K 27 V B (fun k => ((V k).sh 2).s)) :=
    (take_c (N := w.heap.size + 1) ((h.ch (l := []) (Ch.of hA) (by simp)).up (Nat.le_succ _)) (hTab.kept hA (by simp)) (by have := hTab.1; omega) hN0 hK0 hK hn).mono (by
      rintro e w' ⟨g, ⟨_, rv, B, rfl, hr⟩ | ⟨hf, _⟩⟩
      · exact ⟨g, rv, B, rfl, hr⟩
      · rw [hB] at hf; cases hf)
  have hlim : ∀ Ls : Nat → Nat → Bool, Lim K V (fun k => ((V k).sh 2).size (Ls k)) := fun Ls => ⟨hn, fun k hk i hi => by have := Lk.size_le (hok k hk) (Ls k) hi; show 0 ≤ ((V k).sh 2).size (Ls k) i ∧ ((V k).sh 2).size (Ls k) i ≤ 40; omega⟩
  have hs0 : (fun k => ((V k).sh 2).size (fun _ => false)) = (fun k => ((V k).sh 2).s) := by funext k i; unfold Lk.Sh.size; simp
  have hlim0 : Lim K V (fun k => ((V k).sh 2).s) := by rw [← hs0]; exact hlim (fun _ _ => false)
  have HLg : Hid (∀ W rv B S, Rw (w.heap.size + 1) W rv K 27 V B S → Lim K V S → Calls Tryd.prog 9 #[rv] W fun e w' => e = .returned (.bool (decide (1048576 < Lk.pos (ends V S) K))) ∧ W.grownBy w' none) := fun W rv B S hr hl => large_any hr hl hK
  have HPl : Hid (∀ W rv B S, Rw (w.heap.size + 1) W rv K 27 V B S → Lim K V S → Calls Tryd.prog 11 #[rv] W fun e w' => e = .returned (.tuple #[.slice (some ⟨W.heap.size, 0, none⟩) K K, .int .i64 (Lk.pos (ends V S) K)]) ∧ OwnN w' W.heap.size (.slice (some ⟨W.heap.size, 0, none⟩) K K) K (Lk.pos (ends V S)) ∧ W.grownBy w' none) := fun W rv B S hr hl => rplaces_any hr hl hK
  have hmono : ∀ Ls : Nat → Nat → Bool, Lk.pos (ends V (fun k => ((V k).sh 2).s)) K ≤ Lk.pos (ends V (Lk.SS 2 V Ls)) K := fun Ls => by
    have := Lk.pos_le (s := ends V (fun k => ((V k).sh 2).s)) (s' := ends V (Lk.SS 2 V Ls)) (Nat.zero_le K) (fun k _ hk => by
      have := Lk.pos_le (s := ((V k).sh 2).s) (s' := Lk.SS 2 V Ls k) (Nat.zero_le (V k).n) (fun i _ hi => by
        show ((V k).sh 2).s i ≤ ((V k).sh 2).size (Ls k) i
        unfold Lk.Sh.size
        split
        · next hh => exact (hok k hk).sh.le i hi (by simp at hh; exact hh.1)
        · exact Int.le_refl _)
      have e0 : ∀ s : Nat → Int, Lk.pos s 0 = 0 := fun _ => rfl
      rw [e0, e0] at this
      show Lk.pos ((V k).sh 2).s (V k).n ≤ Lk.pos (Lk.SS 2 V Ls k) (V k).n
      omega)
    have e0 : ∀ s : Nat → Int, Lk.pos s 0 = 0 := fun _ => rfl
    rw [e0, e0] at this
    omega
  have HTw : Hid (∀ W, w0.grownBy W none → TabAt W) := fun W g => (hTab.kept hA (by simp)).kept g (by simp)
  have hTN := hTab.1
  obtain ⟨Ls0, hLs0⟩ : ∃ Ls0 : Nat → Nat → Bool, ∀ k, k < K → ((V k).sh 2).Least (Ls0 k) := ⟨fun k => Classical.choose (hL0 k), fun k hk => Classical.choose_spec (hL0 k) hk⟩
  have HGr : Hid (Lk.pos (ends V (fun k => ((V k).sh 2).s)) K ≤ 1048576 → ∀ W rv B S k, k < K → Rw (w.heap.size + 1) W rv K 27 V B S → S k = ((V k).sh 2).s → w0.grownBy W none → Calls Tryd.prog 10 #[.pointer (some ⟨(B k).B, 0, none⟩)] W fun e w' => e = .returned (.tuple #[]) ∧ ∃ L, ((V k).sh 2).Least L ∧ OwnN w' (w.heap.size + 1) (.slice (some ⟨(B k).T, 0, none⟩) (V k).n (V k).n) (V k).n (((V k).sh 2).size L) ∧ Ch W w' [(B k).T]) := fun hmx W rv B S k hk hr hS hg => by
    have hs : ∀ j, j < K → ∀ i, i < (V j).n → 1 ≤ ((V j).sh 2).s i ∧ ((V j).sh 2).s i ≤ 33 := fun j hj i hi => by
      have := Lk.size_le (hok j hj) (fun _ => false) hi
      have e : ((V j).sh 2).size (fun _ => false) i = ((V j).sh 2).s i := by unfold Lk.Sh.size; simp
      rw [e] at this
      exact this
    have hc := Lk.pos_count (s := ((V k).sh 2).s) (Nat.zero_le (V k).n) (fun i _ hi => (hs k hk i hi).1)
    have e0 : ∀ s : Nat → Int, Lk.pos s 0 = 0 := fun _ => rfl
    have hp0 : ∀ j, j < K → 0 ≤ ends V (fun k => ((V k).sh 2).s) j := fun j hj => by
      have := Lk.pos_mono (s := ((V j).sh 2).s) (Nat.zero_le (V j).n) (fun i _ hi => by have := (hs j hj i hi).1; omega)
      rw [e0] at this
      exact this
    have h1 := Lk.pos_mono (s := ends V (fun k => ((V k).sh 2).s)) (Nat.zero_le k) (fun j _ hj => hp0 j (by omega))
    have h2 := Lk.pos_mono (s := ends V (fun k => ((V k).sh 2).s)) (a := k + 1) (b := K) (by omega) (fun j _ hj => hp0 j hj)
    have h3 : Lk.pos (ends V (fun k => ((V k).sh 2).s)) (k + 1) = Lk.pos (ends V (fun k => ((V k).sh 2).s)) k + Lk.pos ((V k).sh 2).s (V k).n := rfl
    rw [e0] at hc h1
    have hoo := hr.sz k hk
    rw [hS] at hoo
    obtain ⟨cur, hcur⟩ := hoo.blk
    refine pgrow_c (hr.pt k hk) (HTw.out W hg) (by omega) hoo (fun e => ?_) (hok k hk) (by omega) (fun i hi => by have := hs k hk i hi; omega)
    have := (hr.pt k hk).blk
    rw [e, hcur] at this
    simp at this
  have HCo : Hid (∀ W rv B Ls TF bF, Rw (w.heap.size + 1) W rv K 27 V B (Lk.SS 2 V Ls) → OwnN W bF (.slice (some ⟨TF, 0, none⟩) K K) K (Lk.pos (ends V (Lk.SS 2 V Ls))) → (∀ k, k < K → ((V k).sh 2).Least (Ls k)) → Lk.pos (ends V (Lk.SS 2 V Ls)) K ≤ 1048576 → w0.grownBy W none → Calls Tryd.prog 12 #[rv, .slice (some ⟨TF, 0, none⟩) K K] W fun e w' => ∃ v, e = .returned v ∧ OwnL w' W.heap.size v (Lk.codeA 2 V (Lk.SS 2 V Ls) K) ∧ W.grownBy w' none) := fun W rv B Ls TF bF hr hF hl hm hg =>
    code_c hr hF ⟨hok, hl, hrng, hm⟩ (HTw.out W hg) (by omega) (by have := hg.size; omega) hK
  have HCl : Hid (dn ≤ 1048576 → ∀ W, w0.grownBy W none → Calls Tryd.prog 13 #[.slice da dn dc] W fun e w' => ∃ v, e = .returned v ∧ OwnB w' W.heap.size v dn dg ∧ W.grownBy w' none) := fun hle W hg => by
    refine sclone_any dn dc da dg W (by omega) hd0 ?_
    rcases Nat.eq_zero_or_pos dn with h0 | h0
    · exact .inl h0
    · obtain ⟨b, o, e, hc⟩ := hd.at h0
      exact .inr ⟨b, o, e, fun i hi => (grown_trans hA hg).cell (hc i hi) (by simp)⟩
  have HLim : Hid (∀ Ls : Nat → Nat → Bool, Lim K V (fun k => ((V k).sh 2).size (Ls k))) := hlim
  have HLim0 : Hid (Lim K V (fun k => ((V k).sh 2).s)) := hlim0
  have HMo : Hid (∀ Ls : Nat → Nat → Bool, Lk.pos (ends V (fun k => ((V k).sh 2).s)) K ≤ Lk.pos (ends V (Lk.SS 2 V Ls)) K) := hmono
  have HLs0 : Hid (∀ k, k < K → ((V k).sh 2).Least (Ls0 k)) := hLs0
  have HA : Hid (w.grownBy w0 none) := hA
  have HEnd : Hid (∀ W, w0.grownBy W none → ∀ v0 v1 v2 v3 v4, w.grownBy (put5 W w.heap.size v0 v1 v2 v3 v4) none ∧ (put5 W w.heap.size v0 v1 v2 v3 v4).rowIs w.heap.size 31 5 (row5 v0 v1 v2 v3 v4)) := fun W g v0 v1 v2 v3 v4 => ⟨grown_two (grown_trans hA g) (grown_put5 _ _ _ _ _ _ _) (Nat.le_refl _), row5_put (rowIs_grown RZ.out g) _ _ _ _ _⟩
  have hK' : (K : Int) ≤ 33 := by omega
  have hK0' : (0 : Int) < K := by omega
  have he' : (en : Int) < K := by omega
  have HW0 : Hid (w0 = w.alloc (Obj.cells #[.int .i64 0, .slice none 0 0, .slice none 0 0, .int .i64 0, .slice none 0 0] 31)) := hw0
  have hb0 : w.heap.size < w0.heap.size := by omega
  have hb1 : w0.heap.size ≤ w.heap.size + 1 := by omega
  clear h hTab hn hB hd0 hd hdl hok hrng hL0 hA hlim hlim0 hs0 hmono hLs0 hsz
  by_cases hdb : 1048576 < dn
  · have hdb' : (1048576 : Int) < dn := by omega
    go_enter Tryd.func5, Tryd.ntmps5
    go_wp2_with (go_at_call 8; rw [← hw0]; refine HTk.out.mono ?_; rintro e w1 ⟨g1, rv, B, rfl, hr⟩; obtain ⟨z0, z1, z2, z3, z4, zz⟩ := rowIs_five (rowIs_grown RZ.out g1); have f0 := zz 0; have f1 := zz 1; have f2 := zz 2; have f3 := zz 3; have f4 := zz 4; clear zz)
    change bodyPost _ _ _ _ _ (put5 w1 w.heap.size (.int .i64 0) (.slice none 0 0) (.slice none 0 0) (.int .i64 0) (.slice none 0 0))
    obtain ⟨hgE, hrE⟩ := HEnd.out w1 g1 (.int .i64 0) (.slice none 0 0) (.slice none 0 0) (.int .i64 0) (.slice none 0 0)
    obtain ⟨q0, q1, q2, q3, q4, qz⟩ := rowIs_five hrE
    refine bodyPost_ret (by simp [results, Tryd.results5, go_sem, q0, q1, q2, q3, q4]; try rfl) rfl ?_
    exact ⟨hgE, Ls0, HLs0.out, .inl ⟨.inl hdb, rfl⟩⟩
  · have hdb' : (dn : Int) ≤ 1048576 := by omega
    by_cases htl : 1048576 < Lk.pos (ends V (fun k => ((V k).sh 2).s)) K
    · go_enter Tryd.func5, Tryd.ntmps5
      go_wp2_with (first
        | (go_at_call 8; rw [← hw0]; refine HTk.out.mono ?_; rintro e w1 ⟨g1, rv, B, rfl, hr⟩)
        | (go_at_call 9; refine (HLg.out _ _ _ _ hr HLim0.out).mono ?_; rintro e w2 ⟨rfl, g2⟩; rw [decide_eq_true htl]; obtain ⟨z0, z1, z2, z3, z4, zz⟩ := rowIs_five (rowIs_grown RZ.out (grown_trans g1 g2)); have f0 := zz 0; have f1 := zz 1; have f2 := zz 2; have f3 := zz 3; have f4 := zz 4; clear zz))
      change bodyPost _ _ _ _ _ (put5 w2 w.heap.size (.int .i64 0) (.slice none 0 0) (.slice none 0 0) (.int .i64 0) (.slice none 0 0))
      obtain ⟨hgE, hrE⟩ := HEnd.out w2 (grown_trans g1 g2) (.int .i64 0) (.slice none 0 0) (.slice none 0 0) (.int .i64 0) (.slice none 0 0)
      obtain ⟨q0, q1, q2, q3, q4, qz⟩ := rowIs_five hrE
      refine bodyPost_ret (by simp [results, Tryd.results5, go_sem, q0, q1, q2, q3, q4]; try rfl) rfl ?_
      exact ⟨hgE, Ls0, HLs0.out, .inl ⟨.inr (by have := HMo.out Ls0; omega), rfl⟩⟩
    · have htl' : Lk.pos (ends V (fun k => ((V k).sh 2).s)) K ≤ 1048576 := by omega
      have HGr2 := HGr.out htl'
      have HGr3 : Hid (∀ W rv B S k, k < K → Rw (w.heap.size + 1) W rv K 27 V B S → S k = ((V k).sh 2).s → w0.grownBy W none → Calls Tryd.prog 10 #[.pointer (some ⟨(B k).B, 0, none⟩)] W fun e w' => e = .returned (.tuple #[]) ∧ ∃ L, ((V k).sh 2).Least L ∧ OwnN w' (w.heap.size + 1) (.slice (some ⟨(B k).T, 0, none⟩) (V k).n (V k).n) (V k).n (((V k).sh 2).size L) ∧ Ch W w' [(B k).T]) := HGr2
      clear HGr HGr2
      have HLgF : Hid (∀ W rv B, Rw (w.heap.size + 1) W rv K 27 V B (fun k => ((V k).sh 2).s) → Calls Tryd.prog 9 #[rv] W fun e w' => e = .returned (.bool false) ∧ W.grownBy w' none) := fun W rv B hr => by
        have := HLg.out W rv B _ hr HLim0.out
        rw [decide_eq_false htl] at this
        exact this
      go_enter Tryd.func5, Tryd.ntmps5
      go_wp2_with (first
        | (go_at_call 8; rw [← hw0]; refine HTk.out.mono ?_; rintro e w1 ⟨g1, rv, B, rfl, hr⟩; obtain ⟨ar, cr, rfl, _, _, har⟩ := hr.slice; obtain ⟨R, rfl, _⟩ := har hK0; clear har)
        | (go_at_call 9; refine (HLgF.out _ _ _ hr).mono ?_; rintro e w2 ⟨rfl, g2⟩))
      have HR2 : Hid (Rw (w.heap.size + 1) w2 (.slice (some ⟨R, 0, none⟩) K cr) K 27 V B (fun k => ((V k).sh 2).s)) := hr.grow g2
      have HG2 : Hid (w0.grownBy w2 none) := grown_trans g1 g2
      clear hr g1 g2 HTk hw0
      go_loopw [45] (fun i wr => ∃ (k : Nat) (Ls : Nat → Nat → Bool), i = .int .i64 k ∧ k ≤ K ∧ (∀ j, j < k → ((V j).sh 2).Least (Ls j)) ∧ Rw (w.heap.size + 1) wr (.slice (some ⟨R, 0, none⟩) K cr) K 27 V B (fun j => if j < k then ((V j).sh 2).size (Ls j) else ((V j).sh 2).s) ∧ w0.grownBy wr none) (fun i _ => K - (intOf i).toNat)
      case atStart => exact ⟨0, fun _ _ => false, rfl, Nat.zero_le _, fun j hj => by omega, HR2.out.congr (fun j hj => by simp), HG2.out⟩
      case round =>
        obtain ⟨k, Ls, rfl, hk, hle, hrw, hg⟩ := hrel
        have HLe : Hid (∀ j, j < k → ((V j).sh 2).Least (Ls j)) := hle
        have HRw : Hid (Rw (w.heap.size + 1) wr (.slice (some ⟨R, 0, none⟩) K cr) K 27 V B (fun j => if j < k then ((V j).sh 2).size (Ls j) else ((V j).sh 2).s)) := hrw
        have HG : Hid (w0.grownBy wr none) := hg
        clear hle hg
        by_cases hkK : k < K
        · have hkK' : (k : Int) < K := by omega
          have ck : wr.cell? ⟨R, k, none⟩ = some (.pointer (some ⟨(B k).B, 0, none⟩)) := by
            obtain ⟨a', c', e, _, _, hh⟩ := hrw.slice
            simp at e
            obtain ⟨rfl, rfl⟩ := e
            obtain ⟨R', e', hc'⟩ := hh (by omega)
            simp at e'
            subst e'
            exact hc' k hkK
          have HGk := HGr3.out wr _ B _ k hkK hrw (by simp) HG.out
          have HGk2 : Hid (Calls Tryd.prog 10 #[.pointer (some ⟨(B k).B, 0, none⟩)] wr fun e w' => e = .returned (.tuple #[]) ∧ ∃ L, ((V k).sh 2).Least L ∧ OwnN w' (w.heap.size + 1) (.slice (some ⟨(B k).T, 0, none⟩) (V k).n (V k).n) (V k).n (((V k).sh 2).size L) ∧ Ch wr w' [(B k).T]) := HGk
          have hTk : w.heap.size + 1 ≤ (B k).T := (hrw.sz k hkK).base _ rfl
          clear hrw HGk
          go_wp2_with (go_at_call 10; refine HGk2.out.mono ?_; rintro e w3 ⟨rfl, L, hL, ho3, hc3⟩)
          have hR3 := HRw.out.one hkK hc3 ho3
          exact ⟨⟨k + 1, fun j => if j = k then L else Ls j, by go_num, by omega, fun j hj => by
            by_cases e : j = k
            · subst e; simp only [if_true]; exact hL
            · simp only [e, if_false]; exact HLe.out j (by omega), hR3.congr (fun j hj => by
              by_cases e : j = k
              · subst e; simp
              · by_cases h2 : j < k
                · simp [e, h2, show j < k + 1 by omega]
                · simp [e, h2, show ¬ j < k + 1 by omega]), ((Ch.of HG.out).trans hc3).nil (fun j hj => by simp at hj; omega)⟩, by simp [intOf]; omega⟩
        · obtain rfl : k = K := by omega
          have HR3 : Hid (Rw (w.heap.size + 1) wr (.slice (some ⟨R, 0, none⟩) k cr) k 27 V B (Lk.SS 2 V Ls)) := hrw.congr (fun j hj => by rw [if_pos hj]; rfl)
          have HLm : Hid (Lim k V (Lk.SS 2 V Ls)) := HLim.out Ls
          clear hrw HRw
          by_cases htf : 1048576 < Lk.pos (ends V (Lk.SS 2 V Ls)) k
          · go_wp2_with (go_at_call 9; refine (HLg.out _ _ _ _ HR3.out HLm.out).mono ?_; rintro e w2' ⟨rfl, g2⟩; rw [decide_eq_true htf]; obtain ⟨z0, z1, z2, z3, z4, zz⟩ := rowIs_five (rowIs_grown RZ.out (grown_trans HG.out g2)); have f0 := zz 0; have f1 := zz 1; have f2 := zz 2; have f3 := zz 3; have f4 := zz 4; clear zz)
            change bodyPost _ _ _ _ _ (put5 w2' w.heap.size (.int .i64 0) (.slice none 0 0) (.slice none 0 0) (.int .i64 0) (.slice none 0 0))
            obtain ⟨hgE, hrE⟩ := HEnd.out w2' (grown_trans HG.out g2) (.int .i64 0) (.slice none 0 0) (.slice none 0 0) (.int .i64 0) (.slice none 0 0)
            obtain ⟨q0, q1, q2, q3, q4, qz⟩ := rowIs_five hrE
            refine bodyPost_ret (by simp [results, Tryd.results5, go_sem, q0, q1, q2, q3, q4]; try rfl) rfl ?_
            exact ⟨hgE, Ls, HLe.out, .inl ⟨.inr htf, rfl⟩⟩
          · have htf' : Lk.pos (ends V (Lk.SS 2 V Ls)) k ≤ 1048576 := by omega
            go_wp2_with (first
              | (go_at_call 9; refine (HLg.out _ _ _ _ HR3.out HLm.out).mono ?_; rintro e w2' ⟨rfl, g2⟩; rw [decide_eq_false htf]; have HR4 : Hid (Rw (w.heap.size + 1) w2' (.slice (some ⟨R, 0, none⟩) k cr) k 27 V B (Lk.SS 2 V Ls)) := HR3.out.grow g2; have HG4 : Hid (w0.grownBy w2' none) := grown_trans HG.out g2; clear g2)
              | (go_at_call 11; refine (HPl.out _ _ _ _ HR4.out HLm.out).mono ?_; rintro e w5 ⟨rfl, ho5, g5⟩))
            have cF := ho5.cell he
            have HR5 : Hid (Rw (w.heap.size + 1) w5 (.slice (some ⟨R, 0, none⟩) k cr) k 27 V B (Lk.SS 2 V Ls)) := HR4.out.grow g5
            have HG5 : Hid (w0.grownBy w5 none) := grown_trans HG4.out g5
            have hT5 : w.heap.size < w2'.heap.size := by have := HG4.out.size; omega
            obtain ⟨TF, hTF⟩ : ∃ TF, TF = w2'.heap.size := ⟨_, rfl⟩
            rw [← hTF] at ho5 cF ⊢
            have HF5 : Hid (OwnN w5 TF (.slice (some ⟨TF, 0, none⟩) k k) k (Lk.pos (ends V (Lk.SS 2 V Ls)))) := ho5
            have hTFw : w.heap.size < TF := by omega
            clear hTF ho5 g5 HR3 HR4 HG4 hT5
            have HCoK : Hid (∀ W, w5.grownBy W none → Calls Tryd.prog 12 #[.slice (some ⟨R, 0, none⟩) k cr, .slice (some ⟨TF, 0, none⟩) k k] W fun e w' => ∃ v, e = .returned v ∧ OwnL w' W.heap.size v (Lk.codeA 2 V (Lk.SS 2 V Ls) k) ∧ W.grownBy w' none) := fun W g => HCo.out W _ B Ls TF TF (HR5.out.grow g) (HF5.out.grow g) HLe.out htf' (grown_trans HG5.out g)
            have HClK : Hid (∀ W, w5.grownBy W none → Calls Tryd.prog 13 #[.slice da dn dc] W fun e w' => ∃ v, e = .returned v ∧ OwnB w' W.heap.size v dn dg ∧ W.grownBy w' none) := fun W g => HCl.out (by omega) W (grown_trans HG5.out g)
            obtain ⟨CL, hCL⟩ : ∃ CL, CL = Lk.codeA 2 V (Lk.SS 2 V Ls) k := ⟨_, rfl⟩
            rw [← hCL] at HCoK
            have HCL : Hid (CL = Lk.codeA 2 V (Lk.SS 2 V Ls) k) := hCL
            obtain ⟨f, hf⟩ : ∃ f, f = Lk.pos (ends V (Lk.SS 2 V Ls)) en := ⟨_, rfl⟩
            rw [← hf] at cF
            have HFe : Hid (f = Lk.pos (ends V (Lk.SS 2 V Ls)) en) := hf
            have hne : ¬ k ≤ en := by omega
            have h5s : w.heap.size ≤ w5.heap.size := by have := HG5.out.size; omega
            clear hCL hf
            refine region_src 12 (psiK [.int .i64 2, .slice (some ⟨R, 0, none⟩) k cr, .slice (some ⟨TF, 0, none⟩) k k, undef, .slice da dn dc, undef, .slice (some ⟨TF, 0, none⟩) k k, .int .i64 (en : Int), .pointer (some ⟨TF, en, none⟩), .int .i64 f, .slice (some ⟨TF, 0, none⟩) k k] 2 f (.slice (some ⟨TF, 0, none⟩) k k) w5.heap.size CL dn dg) (by kernel_rfl) (by kernel_rfl) (by kernel_rfl) (by kernel_rfl) (fun i x w0 w1 hi h g => psiK_stable h g) ?_ ?_
            · simp only [List.take_succ_cons, List.take_zero]
              refine ⟨?_, ?_, ?_, ?_, ?_, ?_, ?_, ?_, ?_, ?_, ?_, ?_, trivial⟩
              · intro VV W0 AA g hV hs hz
                have gD : w5.grownBy W0 none := grown_trans (grown_drew (World.grownBy.refl _ none)) g
                have e00 := hz 0 (.int .i64 2) (by kernel_rfl) rfl
                clear hV hs hz
                refine outO_val (v := .int .i64 2) (w' := W0) ?_ (World.grownBy.refl _ _) (psiK_mf (by decide) (by decide) (by decide) rfl)
                simp [go_sem, e00]
              · intro VV W0 AA g hV hs hz
                have gD : w5.grownBy W0 none := grown_trans (grown_drew (World.grownBy.refl _ none)) g
                have e010 := hz 10 (.slice (some ⟨R, 0, none⟩) k cr) (by kernel_rfl) rfl
                clear hV hs hz
                refine outO_val (v := .slice (some ⟨R, 0, none⟩) k cr) (w' := W0) ?_ (World.grownBy.refl _ _) (psiK_mf (by decide) (by decide) (by decide) rfl)
                simp [go_sem, e010]
              · intro VV W0 AA g hV hs hz
                have gD : w5.grownBy W0 none := grown_trans (grown_drew (World.grownBy.refl _ none)) g
                have e014 := hz 14 (.slice (some ⟨TF, 0, none⟩) k k) (by kernel_rfl) rfl
                clear hV hs hz
                refine outO_val (v := .slice (some ⟨TF, 0, none⟩) k k) (w' := W0) ?_ (World.grownBy.refl _ _) (psiK_mf (by decide) (by decide) (by decide) rfl)
                simp [go_sem, e014]
              · intro VV W0 AA g hV hs hz
                have gD : w5.grownBy W0 none := grown_trans (grown_drew (World.grownBy.refl _ none)) g
                have q1 : VV 1 = .slice (some ⟨R, 0, none⟩) k cr := psiK_f (hV 1 (by kernel_rfl)) (by decide) (by decide) (by decide)
                have e1 := hs 61 1 (by kernel_rfl) (by kernel_rfl)
                have q2 : VV 2 = .slice (some ⟨TF, 0, none⟩) k k := psiK_f (hV 2 (by kernel_rfl)) (by decide) (by decide) (by decide)
                have e2 := hs 62 2 (by kernel_rfl) (by kernel_rfl)
                clear hV hs hz
                refine outO_call (f := 12) ?_ ((HCoK.out W0 gD).mono fun e w2 ⟨v, he, ho, hg⟩ => ⟨v, he, hg, OwnL.low ho (by have := g.size; exact this)⟩)
                simp [go_sem, q1, e1, q2, e2]
              · intro VV W0 AA g hV hs hz
                have gD : w5.grownBy W0 none := grown_trans (grown_drew (World.grownBy.refl _ none)) g
                have e02 := hz 2 (.slice da dn dc) (by kernel_rfl) rfl
                clear hV hs hz
                refine outO_val (v := .slice da dn dc) (w' := W0) ?_ (World.grownBy.refl _ _) (psiK_mf (by decide) (by decide) (by decide) rfl)
                simp [go_sem, e02]
              · intro VV W0 AA g hV hs hz
                have gD : w5.grownBy W0 none := grown_trans (grown_drew (World.grownBy.refl _ none)) g
                have q4 : VV 4 = .slice da dn dc := psiK_f (hV 4 (by kernel_rfl)) (by decide) (by decide) (by decide)
                have e4 := hs 64 4 (by kernel_rfl) (by kernel_rfl)
                clear hV hs hz
                refine outO_call (f := 13) ?_ ((HClK.out W0 gD).mono fun e w2 ⟨v, he, ho, hg⟩ => ⟨v, he, hg, World.ownsRow.mono ho (by have := g.size; exact this)⟩)
                simp [go_sem, q4, e4]
              · intro VV W0 AA g hV hs hz
                have gD : w5.grownBy W0 none := grown_trans (grown_drew (World.grownBy.refl _ none)) g
                have e014 := hz 14 (.slice (some ⟨TF, 0, none⟩) k k) (by kernel_rfl) rfl
                clear hV hs hz
                refine outO_val (v := .slice (some ⟨TF, 0, none⟩) k k) (w' := W0) ?_ (World.grownBy.refl _ _) (psiK_mf (by decide) (by decide) (by decide) rfl)
                simp [go_sem, e014]
              · intro VV W0 AA g hV hs hz
                have gD : w5.grownBy W0 none := grown_trans (grown_drew (World.grownBy.refl _ none)) g
                have e03 := hz 3 (.int .i64 (en : Int)) (by kernel_rfl) rfl
                clear hV hs hz
                refine outO_val (v := .int .i64 (en : Int)) (w' := W0) ?_ (World.grownBy.refl _ _) (psiK_mf (by decide) (by decide) (by decide) rfl)
                simp [go_sem, e03]
              · intro VV W0 AA g hV hs hz
                have gD : w5.grownBy W0 none := grown_trans (grown_drew (World.grownBy.refl _ none)) g
                have q6 : VV 6 = .slice (some ⟨TF, 0, none⟩) k k := psiK_f (hV 6 (by kernel_rfl)) (by decide) (by decide) (by decide)
                have e6 := hs 66 6 (by kernel_rfl) (by kernel_rfl)
                have q7 : VV 7 = .int .i64 (en : Int) := psiK_f (hV 7 (by kernel_rfl)) (by decide) (by decide) (by decide)
                have e7 := hs 67 7 (by kernel_rfl) (by kernel_rfl)
                clear hV hs hz
                refine outO_val (v := .pointer (some ⟨TF, en, none⟩)) (w' := W0) ?_ (World.grownBy.refl _ _) (psiK_mf (by decide) (by decide) (by decide) rfl)
                simp [go_sem, q6, e6, q7, e7, hne]
              · intro VV W0 AA g hV hs hz
                have gD : w5.grownBy W0 none := grown_trans (grown_drew (World.grownBy.refl _ none)) g
                have q8 : VV 8 = .pointer (some ⟨TF, en, none⟩) := psiK_f (hV 8 (by kernel_rfl)) (by decide) (by decide) (by decide)
                have e8 := hs 68 8 (by kernel_rfl) (by kernel_rfl)
                have x0 := gD.cell cF (by simp)
                clear hV hs hz
                refine outO_val (v := .int .i64 f) (w' := W0) ?_ (World.grownBy.refl _ _) (psiK_mf (by decide) (by decide) (by decide) rfl)
                simp [go_sem, q8, e8, x0]
              · intro VV W0 AA g hV hs hz
                have gD : w5.grownBy W0 none := grown_trans (grown_drew (World.grownBy.refl _ none)) g
                have e014 := hz 14 (.slice (some ⟨TF, 0, none⟩) k k) (by kernel_rfl) rfl
                clear hV hs hz
                refine outO_val (v := .slice (some ⟨TF, 0, none⟩) k k) (w' := W0) ?_ (World.grownBy.refl _ _) (psiK_mf (by decide) (by decide) (by decide) rfl)
                simp [go_sem, e014]
              · intro VV W0 AA g hV hs hz
                have gD : w5.grownBy W0 none := grown_trans (grown_drew (World.grownBy.refl _ none)) g
                have q0 : VV 0 = .int .i64 2 := psiK_f (hV 0 (by kernel_rfl)) (by decide) (by decide) (by decide)
                have e0 := hs 60 0 (by kernel_rfl) (by kernel_rfl)
                have q9 : VV 9 = .int .i64 f := psiK_f (hV 9 (by kernel_rfl)) (by decide) (by decide) (by decide)
                have e9 := hs 69 9 (by kernel_rfl) (by kernel_rfl)
                have q10 : VV 10 = .slice (some ⟨TF, 0, none⟩) k k := psiK_f (hV 10 (by kernel_rfl)) (by decide) (by decide) (by decide)
                have e10 := hs 70 10 (by kernel_rfl) (by kernel_rfl)
                have q3 : OwnL W0 w5.heap.size (VV 3) CL := hV 3 (by kernel_rfl)
                have q5 : OwnB W0 w5.heap.size (VV 5) dn dg := hV 5 (by kernel_rfl)
                obtain ⟨a3, c3, p3, _⟩ := (OwnL.toB q3).shape
                obtain ⟨a5, c5, p5, _⟩ := q5.shape
                have e3 := hs 63 3 (by kernel_rfl) (by kernel_rfl)
                have e5 := hs 65 5 (by kernel_rfl) (by kernel_rfl)
                clear hV hs hz
                refine outO_val (v := .agg #[.int .i64 2, VV 3, VV 5, .int .i64 f, .slice (some ⟨TF, 0, none⟩) k k]) (w' := W0) ?_ (World.grownBy.refl _ _) ⟨VV 3, VV 5, rfl, q3, q5⟩
                simp [go_sem, q0, e0, q9, e9, q10, e10, e3, e5, p3, p5]
            · intro VV W0 g hV
              have gD : w5.grownBy W0 none := grown_trans (grown_drew (World.grownBy.refl _ none)) g
              have h0 : VV 0 = .int .i64 2 := psiK_f (hV 0 (by decide)) (by decide) (by decide) (by decide)
              have h1 : VV 1 = .slice (some ⟨R, 0, none⟩) k cr := psiK_f (hV 1 (by decide)) (by decide) (by decide) (by decide)
              have h2 : VV 2 = .slice (some ⟨TF, 0, none⟩) k k := psiK_f (hV 2 (by decide)) (by decide) (by decide) (by decide)
              have h4 : VV 4 = .slice da dn dc := psiK_f (hV 4 (by decide)) (by decide) (by decide) (by decide)
              have h6 : VV 6 = .slice (some ⟨TF, 0, none⟩) k k := psiK_f (hV 6 (by decide)) (by decide) (by decide) (by decide)
              have h7 : VV 7 = .int .i64 (en : Int) := psiK_f (hV 7 (by decide)) (by decide) (by decide) (by decide)
              have h8 : VV 8 = .pointer (some ⟨TF, en, none⟩) := psiK_f (hV 8 (by decide)) (by decide) (by decide) (by decide)
              have h9 : VV 9 = .int .i64 f := psiK_f (hV 9 (by decide)) (by decide) (by decide) (by decide)
              have h10 : VV 10 = .slice (some ⟨TF, 0, none⟩) k k := psiK_f (hV 10 (by decide)) (by decide) (by decide) (by decide)
              obtain ⟨y3, h3⟩ : ∃ y, VV 3 = y := ⟨_, rfl⟩
              obtain ⟨y5, h5⟩ : ∃ y, VV 5 = y := ⟨_, rfl⟩
              obtain ⟨v3, v5, h11, o3, o5⟩ := hV 11 (by decide)
              obtain ⟨a3, c3, p3, _⟩ := (OwnL.toB o3).shape
              obtain ⟨a5, c5, p5, _⟩ := OwnB.shape o5
              subst p3
              subst p5
              have GW : w0.grownBy W0 none := grown_trans HG5.out gD
              have HO3 : Hid (OwnL W0 w5.heap.size (.slice a3 CL.length c3) CL) := o3
              have HO5 : Hid (OwnB W0 w5.heap.size (.slice a5 dn c5) dn dg) := o5
              have HF9 : Hid (OwnN W0 TF (.slice (some ⟨TF, 0, none⟩) k k) k (Lk.pos (ends V (Lk.SS 2 V Ls)))) := HF5.out.grow gD
              simp [frV, dstOf, Act.put, h0, h1, h2, h3, h4, h5, h6, h7, h8, h9, h10, h11]
              clear h0 h1 h2 h3 h4 h5 h6 h7 h8 h9 h10 h11 hV g gD o3 o5
              obtain ⟨z0, z1, z2, z3, z4, zz⟩ := rowIs_five (rowIs_grown RZ.out GW)
              have f0 := zz 0
              have f1 := zz 1
              have f2 := zz 2
              have f3 := zz 3
              have f4 := zz 4
              clear zz
              go_wp2_with fail
              change bodyPost _ _ _ _ _ (put5 W0 w.heap.size (.int .i64 2) (.slice a3 CL.length c3) (.slice a5 dn c5) (.int .i64 f) (.slice (some ⟨TF, 0, none⟩) k k))
              obtain ⟨hgE, hrE⟩ := HEnd.out W0 GW (.int .i64 2) (.slice a3 CL.length c3) (.slice a5 dn c5) (.int .i64 f) (.slice (some ⟨TF, 0, none⟩) k k)
              obtain ⟨q0, q1, q2, q3, q4, qz⟩ := rowIs_five hrE
              refine bodyPost_ret (by simp [results, Tryd.results5, go_sem, q0, q1, q2, q3, q4]; try rfl) rfl ?_
              have gP := grown_put5 W0 w.heap.size (.int .i64 2) (.slice a3 CL.length c3) (.slice a5 dn c5) (.int .i64 f) (.slice (some ⟨TF, 0, none⟩) k k)
              have hb5 : w.heap.size < w5.heap.size := by have := HG5.out.size; omega
              refine ⟨hgE, Ls, HLe.out, .inr ⟨by omega, htf', (.slice a3 CL.length c3), (.slice a5 dn c5), TF, by rw [← HFe.out], ?_, ?_, ?_⟩⟩
              · rw [← HCL.out]
                exact OwnL.low (OwnL.kept HO3.out gP (own_ne HO3.out hb5)) h5s
              · exact World.ownsRow.mono (World.ownsRow.kept HO5.out gP (own_ne HO5.out hb5)) h5s
              · exact (HF9.out.kept gP (.inr (by simp [Value.ownBlock]; omega))).low (Nat.le_of_lt hTFw)
end Go.Proofs.YtkpimelfeidcpaaDoor

/- Pieces of one jump and n returns: how long they are when linked. -/
namespace Go.Proofs.YtkpimelfeidcpaaDoor
open Go.RowKit
set_option linter.unusedVariables false
namespace Lk
def retV : InV := ⟨24, 0, 0, 0, 0, 0, 0, 0, 0⟩
def jmpV : InV := ⟨19, 0, 0, 0, 0, 0, 0, 0, 0⟩
def aheadP (n : Nat) : PcV := ⟨n + 1, fun i => if i = 0 then jmpV else retV, 1, fun _ => ((n + 1 : Nat) : Int)⟩
def backP (n : Nat) : PcV := ⟨n + 1, fun i => if i = n then jmpV else retV, 1, fun _ => 0⟩
theorem ret_may1 : Ru.mayT 1 (bare retV) = true := by decide
theorem ret_may2 : Ru.mayT 2 (bare retV) = true := by decide
theorem jmp_may1 : Ru.mayT 1 (bare jmpV) = true := by decide
theorem jmp_may2 : Ru.mayT 2 (bare jmpV) = true := by decide
theorem ret_len2 : (Ru.encT 2 (bare retV)).length = 1 := by decide
theorem jmp_len2 : (Ru.encT 2 (bare jmpV)).length = 3 := by decide
theorem len1 (v : InV) : (Ru.encT 1 v).length = 8 := by unfold Ru.encT; simp
theorem inst_ret {t : Int} (ht : t = 1 ∨ t = 2) (m p : Int) : instB t m p retV = true := by
  unfold instB
  have e : labB m p retV = true := by
    unfold labB
    rw [if_neg (by decide), if_neg (by decide)]
    rfl
  rw [e]
  rcases ht with rfl | rfl
  · rw [ret_may1]; rfl
  · rw [ret_may2]; rfl
theorem inst_jmp {t : Int} (ht : t = 1 ∨ t = 2) (p : Int) : instB t 1 p jmpV = true := by
  unfold instB
  have e : labB 1 p jmpV = true := by
    unfold labB
    rw [if_pos (by decide)]
    rfl
  rw [e]
  rcases ht with rfl | rfl
  · rw [jmp_may1]; rfl
  · rw [jmp_may2]; rfl
theorem ahead_ok {t : Int} (ht : t = 1 ∨ t = 2) (p : Int) (n : Nat) : marksB (aheadP n) = true ∧ instsB t p (aheadP n) = true := by
  refine ⟨marksB_iff.2 fun i hi => ?_, instsB_iff.2 fun i hi => ?_⟩
  · show 0 ≤ ((n + 1 : Nat) : Int) ∧ ((n + 1 : Nat) : Int) ≤ ((n + 1 : Nat) : Int)
    omega
  · show instB t ((1 : Nat) : Int) p (if i = 0 then jmpV else retV) = true
    split
    · exact inst_jmp ht p
    · exact inst_ret ht _ p
theorem back_ok {t : Int} (ht : t = 1 ∨ t = 2) (p : Int) (n : Nat) : marksB (backP n) = true ∧ instsB t p (backP n) = true := by
  refine ⟨marksB_iff.2 fun i hi => ?_, instsB_iff.2 fun i hi => ?_⟩
  · show 0 ≤ (0 : Int) ∧ (0 : Int) ≤ ((n + 1 : Nat) : Int)
    omega
  · show instB t ((1 : Nat) : Int) p (if i = n then jmpV else retV) = true
    split
    · exact inst_jmp ht p
    · exact inst_ret ht _ p
theorem pos_one {s : Nat → Int} {a : Int} (h0 : s 0 = a) : ∀ k, (∀ i, 0 < i → i < k + 1 → s i = 1) → pos s (k + 1) = a + k
  | 0, _ => by rw [pos_succ, h0]; simp [pos]
  | k + 1, h => by
    rw [pos_succ, pos_one h0 k (fun i h1 h2 => h i h1 (by omega)), h (k + 1) (by omega) (by omega)]
    omega
theorem pos_ones {s : Nat → Int} : ∀ k, (∀ i, i < k → s i = 1) → pos s k = k
  | 0, _ => rfl
  | k + 1, h => by
    rw [pos_succ, pos_ones k (fun i hi => h i (by omega)), h k (by omega)]
    omega
theorem ahead_size {n : Nat} {L : Nat → Bool} (hL : ((aheadP n).sh 2).Least L) : pos (((aheadP n).sh 2).size L) (n + 1) = n + if 127 < n then 6 else 3 := by
  have hok : (aheadP n).Ok 2 1 := PcV.ok_of (ahead_ok (.inr rfl) 1 n).1 (ahead_ok (.inr rfl) 1 n).2
  have hj0 : ((aheadP n).sh 2).j 0 = true := by show jmpB (if (0 : Nat) = 0 then jmpV else retV).op = true; rfl
  have hs : ∀ i, 0 < i → ((aheadP n).sh 2).size L i = 1 := fun i hi => by
    have hj : ((aheadP n).sh 2).j i = false := by show jmpB (if i = 0 then jmpV else retV).op = false; rw [if_neg (by omega)]; rfl
    unfold Sh.size
    rw [hj]
    show ((Ru.encT 2 (bare (if i = 0 then jmpV else retV))).length : Int) = 1
    rw [if_neg (by omega), ret_len2]
    rfl
  have hp : ∀ k, pos (((aheadP n).sh 2).size L) (k + 1) = ((aheadP n).sh 2).size L 0 + k := fun k => pos_one rfl k (fun i h1 _ => hs i h1)
  have him : ((aheadP n).sh 2).imm L 0 = n := by
    unfold Sh.imm
    have ht : ((aheadP n).sh 2).tg 0 = n + 1 := by show (((n + 1 : Nat) : Int)).toNat = n + 1; omega
    rw [ht, hp n, hp 0]
    omega
  have hf := hL.far hok.sh (i := 0) (by show 0 < n + 1; omega) hj0
  rw [him] at hf
  have h0 : ((aheadP n).sh 2).size L 0 = if 127 < n then 6 else 3 := by
    unfold Sh.size
    rw [hj0, hf]
    by_cases h : 127 < n
    · have : fitB (n : Int) = false := by rw [fitB_no]; omega
      rw [this, if_pos h]
      rfl
    · have : fitB (n : Int) = true := by rw [fitB_iff]; omega
      rw [this, if_neg h]
      show ((Ru.encT 2 (bare (if (0 : Nat) = 0 then jmpV else retV))).length : Int) = 3
      rw [if_pos rfl, jmp_len2]
      rfl
  rw [hp n, h0]
  omega
theorem back_size {n : Nat} {L : Nat → Bool} (hL : ((backP n).sh 2).Least L) : pos (((backP n).sh 2).size L) (n + 1) = n + if 128 < n + 3 then 6 else 3 := by
  have hok : (backP n).Ok 2 1 := PcV.ok_of (back_ok (.inr rfl) 1 n).1 (back_ok (.inr rfl) 1 n).2
  have hj0 : ((backP n).sh 2).j n = true := by show jmpB (if n = n then jmpV else retV).op = true; rw [if_pos rfl]; rfl
  have hjo : ∀ i, i ≠ n → ((backP n).sh 2).j i = false := fun i hi => by show jmpB (if i = n then jmpV else retV).op = false; rw [if_neg hi]; rfl
  have hs : ∀ L i, i < n → ((backP n).sh 2).size L i = 1 := fun L i hi => by
    unfold Sh.size
    rw [hjo i (by omega)]
    show ((Ru.encT 2 (bare (if i = n then jmpV else retV))).length : Int) = 1
    rw [if_neg (by omega), ret_len2]
    rfl
  have hsn : ∀ L, ((backP n).sh 2).size L n = if L n then 6 else 3 := fun L => by
    unfold Sh.size
    rw [hj0]
    cases L n
    · show ((Ru.encT 2 (bare (if n = n then jmpV else retV))).length : Int) = 3
      rw [if_pos rfl, jmp_len2]
      rfl
    · rfl
  have hp : ∀ L, pos (((backP n).sh 2).size L) (n + 1) = n + if L n then 6 else 3 := fun L => by
    rw [pos_succ, pos_ones n (fun i hi => hs L i hi), hsn]
  have him : ∀ L, ((backP n).sh 2).imm L n = -(n + if L n then 6 else 3) := fun L => by
    unfold Sh.imm
    have ht : ((backP n).sh 2).tg n = 0 := rfl
    rw [ht, hp L]
    show 0 - _ = _
    omega
  have hf := hL.far hok.sh (i := n) (by show n < n + 1; omega) hj0
  rw [him] at hf
  rw [hp L]
  by_cases h : 128 < n + 3
  · rw [if_pos h]
    cases hLn : L n
    · rw [hLn] at hf
      have : fitB (-((n : Int) + if false = true then 6 else 3)) = false := by rw [fitB_no]; simp; omega
      rw [this] at hf
      cases hf
    · simp
  · rw [if_neg h]
    have hc : ((backP n).sh 2).Closed (fun _ => false) := fun i hi hj hff => by
      by_cases e : i = n
      · subst e
        rw [him] at hff
        have : fitB (-((i : Int) + if false = true then 6 else 3)) = true := by rw [fitB_iff]; simp; omega
        rw [this] at hff
        cases hff
      · rw [hjo i e] at hj
        cases hj
    cases hLn : L n
    · simp
    · have := hL.le _ hc n (by show n < n + 1; omega) hj0 hLn
      cases this
theorem size_r {P : PcV} (L : Nat → Bool) (i : Nat) : (P.sh 1).size L i = 8 := by
  unfold Sh.size
  split
  · rfl
  · show ((Ru.encT 1 (bare (P.I i))).length : Int) = 8
    rw [len1]
    rfl
theorem pos_r {P : PcV} (L : Nat → Bool) : ∀ k, pos ((P.sh 1).size L) k = 8 * k
  | 0 => rfl
  | k + 1 => by rw [pos_succ, pos_r L k, size_r]; omega
end Lk
end Go.Proofs.YtkpimelfeidcpaaDoor

/- gantrylaw4.wakes; bytes of one's own compared. -/
namespace Go.Proofs.YtkpimelfeidcpaaDoor
open Go.RowKit
set_option linter.unusedVariables false

theorem eq_ownL {w : World} {b1 b2 : Nat} {v1 v2 : Value} {l : List Int} (hn : (l.length : Int) ≤ 140737488351232) (h1 : OwnL w b1 v1 l) (h2 : OwnL w b2 v2 l) :
    Calls Tryd.prog 14 #[v1, v2] w fun e w' => e = .returned (.bool true) ∧ ∃ d, w' = w.drewN d := by
  obtain ⟨a1, c1, rfl, _, _, _, s1⟩ := h1.toB.shape
  obtain ⟨a2, c2, rfl, _, _, _, s2⟩ := h2.toB.shape
  exact eqB l.length c1 c2 a1 a2 _ _ w hn s1 s2 (fun _ _ => rfl)

end Go.Proofs.YtkpimelfeidcpaaDoor

/- gantrylaw6.wakes, num. -/
namespace Go.Proofs.YtkpimelfeidcpaaDoor
open Go.RowKit
set_option linter.unusedVariables false

theorem num6_any (e : Int) (w : World) : Calls Tryd.prog 6 #[.int .i64 e] w fun r w' => r = .returned (.int .i64 e) ∧ w' = w := by
  go_enter Tryd.func6, Tryd.ntmps6
  go_wp2
  go_ret
  exact ⟨rfl, rfl⟩
namespace Lk
def wakeP : PcV := ⟨2, fun i => if i = 0 then jmpV else retV, 1, fun _ => 1⟩
theorem wake_ok : marksB wakeP = true ∧ instsB 2 1 wakeP = true := by
  refine ⟨marksB_iff.2 fun i hi => ?_, instsB_iff.2 fun i hi => ?_⟩
  · show 0 ≤ (1 : Int) ∧ (1 : Int) ≤ ((2 : Nat) : Int)
    decide
  · show instB 2 ((1 : Nat) : Int) 1 (if i = 0 then jmpV else retV) = true
    split
    · exact inst_jmp (.inr rfl) 1
    · exact inst_ret (.inr rfl) _ 1
theorem wake_code (S : Nat → Nat → Int) : codeA 2 (fun _ => wakeP) S 1 = [19, 0, 0, 24] := by
  have e0 : Lk.fin 2 (fun _ => wakeP) S 0 0 = lead jmpV 0 := by
    unfold Lk.fin
    rw [if_pos (by rfl)]
    show lead jmpV (pos (S 0) 1 - pos (S 0) 1) = lead jmpV 0
    rw [Int.sub_self]
  have e1 : Lk.fin 2 (fun _ => wakeP) S 0 1 = retV := by
    unfold Lk.fin
    rw [if_neg (by decide), if_neg (by decide)]
    rfl
  show ([] : List Int) ++ (([] ++ Ru.encT 2 (Lk.fin 2 (fun _ => wakeP) S 0 0)) ++ Ru.encT 2 (Lk.fin 2 (fun _ => wakeP) S 0 1)) = _
  rw [e0, e1]
  decide
theorem rng0 (v : InV) (h1 : v.imm = 0) (h2 : v.scale = 0) : InRng v := ⟨by rw [h1]; decide, by rw [h1]; decide, by rw [h2]; decide, by rw [h2]; decide⟩
end Lk
theorem heap_old (w : World) (o : Obj) {k : Nat} (hk : k < w.heap.size) : (w.alloc o).heap[k]? = w.heap[k]? := (World.grownBy_alloc w o none).block k hk (by simp)
theorem heap_at (w : World) (o : Obj) {k : Nat} (hk : k = w.heap.size) : (w.alloc o).heap[k]? = some o := by rw [hk]; exact heap_alloc_new _ _
theorem heap5 (w : World) (a b c d e : Obj) : (((((w.alloc a).alloc b).alloc c).alloc d).alloc e).heap[w.heap.size]? = some a ∧ (((((w.alloc a).alloc b).alloc c).alloc d).alloc e).heap[w.heap.size + 1]? = some b ∧ (((((w.alloc a).alloc b).alloc c).alloc d).alloc e).heap[w.heap.size + 1 + 1 + 1]? = some d ∧ (((((w.alloc a).alloc b).alloc c).alloc d).alloc e).heap[w.heap.size + 1 + 1 + 1 + 1]? = some e := by
  refine ⟨?_, ?_, ?_, ?_⟩
  · rw [heap_old _ _ (by simp; omega), heap_old _ _ (by simp; omega), heap_old _ _ (by simp; omega), heap_old _ _ (by simp)]
    exact heap_at _ _ rfl
  · rw [heap_old _ _ (by simp), heap_old _ _ (by simp), heap_old _ _ (by simp)]
    exact heap_at _ _ (by simp)
  · rw [heap_old _ _ (by simp)]
    exact heap_at _ _ (by simp)
  · exact heap_at _ _ (by simp)
set_option maxRecDepth 100000 in
set_option maxHeartbeats 8000000 in
theorem wakes6_any (w : World) (hT : TabAt w) : Calls Tryd.prog 7 #[] w fun e w' => e = .returned (.bool true) ∧ w.grownBy w' none := by
  have HL : Hid (∀ W : World, TabAt W → ∀ T0 T1 T2 T3, W.heap[T0]? = some (.cells #[.int .i64 19, .int .i64 0, .int .i64 0, .int .i64 0, .int .i64 0, .int .i64 0, .int .i64 0, .int .i64 0, .int .i64 0, .int .i64 24, .int .i64 0, .int .i64 0, .int .i64 0, .int .i64 0, .int .i64 0, .int .i64 0, .int .i64 0, .int .i64 0] 26 (0, 0)) → W.heap[T1]? = some (.cells #[.int .i64 1] 3 (0, 0)) →
      W.heap[T2]? = some (.cells #[.slice (some ⟨T0, 0, none⟩) 2 2, .slice (some ⟨T1, 0, none⟩) 1 1, .int .i64 0] 28 (0, 0)) → W.heap[T3]? = some (.cells #[.int .u8 5] 5 (0, 0)) →
      Calls Tryd.prog 5 #[.int .i64 2, .slice (some ⟨T2, 0, none⟩) 1 1, .slice (some ⟨T3, 0, none⟩) 1 1, .int .i64 0] W fun e w' => ∃ cv dv TF, e = .returned (.tuple #[.agg #[.int .i64 2, cv, dv, .int .i64 0, .slice (some ⟨TF, 0, none⟩) 1 1], .int .i64 0]) ∧ OwnL w' W.heap.size cv [19, 0, 0, 24] ∧ OwnL w' W.heap.size dv [5] ∧ W.grownBy w' none) := by
    intro W hW T0 T1 T2 T3 h0 h1 h2 h3
    have l0 : T0 < W.heap.size := (Array.getElem?_eq_some_iff.1 h0).1
    have l1 : T1 < W.heap.size := (Array.getElem?_eq_some_iff.1 h1).1
    have l2 : T2 < W.heap.size := (Array.getElem?_eq_some_iff.1 h2).1
    have l3 : T3 < W.heap.size := (Array.getElem?_eq_some_iff.1 h3).1
    have hp : PcsIn W.heap.size W (some ⟨T2, 0, none⟩) 1 1 (fun _ => Lk.wakeP) (fun _ => ⟨some ⟨T0, 0, none⟩, 2, some ⟨T1, 0, none⟩, 1, 0⟩) := by
      refine ⟨Nat.le_refl _, by unfold maxLen; omega, .inr ⟨T2, 0, rfl, l2, fun k hk => ?_⟩⟩
      obtain rfl : k = 0 := by omega
      refine ⟨by simp [World.cell?, h2]; rfl, by simp [World.cell?, h2]; rfl, by simp [World.cell?, h2], ?_, ?_⟩
      · refine ⟨Nat.le_refl _, by show (2 : Nat) ≤ maxLen; unfold maxLen; omega, .inr ⟨T0, 0, rfl, l0, fun i hi => ?_⟩, fun i hi => ?_⟩
        · have : i = 0 ∨ i = 1 := by have : i < 2 := hi; omega
          rcases this with rfl | rfl
          · constructor <;> simp [World.cell?, h0, Lk.wakeP, Lk.jmpV]
          · constructor <;> simp [World.cell?, h0, Lk.wakeP, Lk.retV]
        · show InRng (if i = 0 then Lk.jmpV else Lk.retV)
          split <;> exact Lk.rng0 _ rfl rfl
      · refine ⟨Nat.le_refl _, by show (1 : Nat) ≤ maxLen; unfold maxLen; omega, .inr ⟨T1, 0, rfl, l1, fun i hi => ?_⟩⟩
        obtain rfl : i = 0 := by have : i < 1 := hi; omega
        simp [World.cell?, h1, Lk.wakeP]
    have hB : Lk.piecesB 2 1 (fun _ => Lk.wakeP) = true := Lk.piecesB_iff.2 fun k hk => Lk.wake_ok
    have hd : Bs W (some ⟨T3, 0, none⟩) 1 (fun _ => 5) := .inr ⟨T3, 0, rfl, fun i hi => by
      obtain rfl : i = 0 := by omega
      simp [World.cell?, h3]⟩
    refine (link_c (en := 0) (dg := fun _ => 5) hp hW (by decide) (by decide) (fun k hk => by show ((2 : Nat) : Int) ≤ _; decide) hB (by decide) (fun h => by cases h) hd (fun b off _ e => by injection e with e; injection e with e; subst e; exact l3) (by decide)).mono ?_
    rintro e w' ⟨g, Ls, hLs, hr⟩
    rcases hr with ⟨hbig, _⟩ | ⟨_, _, cv, dv, TF, rfl, oc, od, _⟩
    · exfalso
      rcases hbig with hb | hb
      · omega
      · have h6 := pos_lim (n := 1) (s := ends (fun _ => Lk.wakeP) (Lk.SS 2 (fun _ => Lk.wakeP) Ls)) (B := 80) (fun j hj => by
          obtain rfl : j = 0 := by omega
          have := pos_lim (n := 2) (s := Lk.SS 2 (fun _ => Lk.wakeP) Ls 0) (B := 40) (fun i hi => by
            have := Lk.size_le (Lk.PcV.ok_of Lk.wake_ok.1 Lk.wake_ok.2) (Ls 0) (i := i) hi
            show 0 ≤ (Lk.wakeP.sh 2).size (Ls 0) i ∧ (Lk.wakeP.sh 2).size (Ls 0) i ≤ 40
            omega)
          show 0 ≤ Lk.pos (Lk.SS 2 (fun _ => Lk.wakeP) Ls 0) 2 ∧ Lk.pos (Lk.SS 2 (fun _ => Lk.wakeP) Ls 0) 2 ≤ 80
          omega)
        omega
    · rw [Lk.wake_code] at oc
      exact ⟨cv, dv, TF, rfl, oc, OwnB.toL od, g⟩
  have HT : Hid (TabAt w) := hT
  clear hT
  have HE1 : Hid (∀ (W : World) ac cc, OwnL W 0 (.slice ac 4 cc) [19, 0, 0, 24] → Calls Tryd.prog 14 #[.slice ac 4 cc, .slice (some ⟨W.heap.size, 0, none⟩) 4 4] (W.alloc (.cells #[.int .u8 19, .int .u8 0, .int .u8 0, .int .u8 24] 5)) fun e w' => e = .returned (.bool true) ∧ W.grownBy w' none) := fun W ac cc h =>
    (eq_ownL (by decide) (OwnL.grow h (World.grownBy_alloc _ _ none)) (OwnL.lit W 0 [19, 0, 0, 24] (Nat.zero_le _) (by show 4 ≤ maxLen; unfold maxLen; omega))).mono (by rintro e w' ⟨rfl, d, rfl⟩; exact ⟨rfl, gn (World.grownBy_alloc _ _ _) _⟩)
  have HE2 : Hid (∀ (W : World) ac cc, OwnL W 0 (.slice ac 1 cc) [5] → Calls Tryd.prog 14 #[.slice ac 1 cc, .slice (some ⟨W.heap.size, 0, none⟩) 1 1] (W.alloc (.cells #[.int .u8 5] 5)) fun e w' => e = .returned (.bool true) ∧ W.grownBy w' none) := fun W ac cc h =>
    (eq_ownL (by decide) (OwnL.grow h (World.grownBy_alloc _ _ none)) (OwnL.lit W 0 [5] (Nat.zero_le _) (by show 1 ≤ maxLen; unfold maxLen; omega))).mono (by rintro e w' ⟨rfl, d, rfl⟩; exact ⟨rfl, gn (World.grownBy_alloc _ _ _) _⟩)
  go_enter Tryd.func7, Tryd.ntmps7
  go_wp2_with (first
    | (go_at_call 5; refine (HL.out _ (((((HT.out.kept (World.grownBy_alloc _ _ none) (by simp)).kept (World.grownBy_alloc _ _ none) (by simp)).kept (World.grownBy_alloc _ _ none) (by simp)).kept (World.grownBy_alloc _ _ none) (by simp)).kept (World.grownBy_alloc _ _ none) (by simp)) w.heap.size (w.heap.size + 1) (w.heap.size + 1 + 1 + 1) (w.heap.size + 1 + 1 + 1 + 1) (heap5 w _ _ _ _ _).1 (heap5 w _ _ _ _ _).2.1 (heap5 w _ _ _ _ _).2.2.1 (heap5 w _ _ _ _ _).2.2.2).mono ?_; rintro e w1 ⟨cv, dv, TF, rfl, oc, od, g1⟩; obtain ⟨ac, cc, rfl, _⟩ := oc.toB.shape; obtain ⟨ad, cd, rfl, _⟩ := od.toB.shape; have G1 : Hid (w.grownBy w1 none) := grown_trans (ga (ga (ga (ga (World.grownBy_alloc _ _ _) _) _) _) _) g1; have OC : Hid (OwnL w1 0 (.slice ac 4 cc) [19, 0, 0, 24]) := OwnL.low oc (Nat.zero_le _); have OD : Hid (OwnL w1 0 (.slice ad 1 cd) [5]) := OwnL.low od (Nat.zero_le _); clear g1 oc od)
    | (go_at_call 6; refine (num6_any _ _).mono ?_; rintro e w2 ⟨rfl, hw2⟩; rw [hw2]; clear hw2 w2))
  have C2 : (w1.alloc (.cells #[.int .i64 2, .slice ac 4 cc, .slice ad 1 cd, .int .i64 0, .slice (some ⟨TF, 0, none⟩) 1 1] 31)).cell? ⟨w1.heap.size, 2, none⟩ = some (.slice ad 1 cd) := by simp
  have GB := World.grownBy_alloc w1 (.cells #[.int .i64 2, .slice ac 4 cc, .slice ad 1 cd, .int .i64 0, .slice (some ⟨TF, 0, none⟩) 1 1] 31) none
  have OC2 := OwnL.grow OC.out GB
  have OD2 := OwnL.grow OD.out GB
  have G2 : Hid (w.grownBy (w1.alloc (.cells #[.int .i64 2, .slice ac 4 cc, .slice ad 1 cd, .int .i64 0, .slice (some ⟨TF, 0, none⟩) 1 1] 31)) none) := grown_trans G1.out GB
  have hs : (w1.alloc (.cells #[.int .i64 2, .slice ac 4 cc, .slice ad 1 cd, .int .i64 0, .slice (some ⟨TF, 0, none⟩) 1 1] 31)).heap.size = w1.heap.size + 1 := by simp
  obtain ⟨WB, hWB⟩ : ∃ WB, WB = w1.alloc (.cells #[.int .i64 2, .slice ac 4 cc, .slice ad 1 cd, .int .i64 0, .slice (some ⟨TF, 0, none⟩) 1 1] 31) := ⟨_, rfl⟩
  rw [← hWB] at C2 OC2 OD2 G2 hs ⊢
  clear hWB GB OC OD G1
  have h1 := HE1.out WB ac cc OC2
  rw [hs] at h1
  refine h1.mono ?_
  rintro e w3 ⟨rfl, g3⟩
  have C3 := g3.cell C2 (by simp)
  have OD3 : Hid (OwnL w3 0 (.slice ad 1 cd) [5]) := OwnL.grow OD2 g3
  have G3 : Hid (w.grownBy w3 none) := grown_trans G2.out g3
  clear h1 hs C2 OC2 OD2 G2 g3
  go_wp2_with (go_at_call 14; refine (HE2.out w3 ad cd OD3.out).mono ?_; rintro e w4 ⟨rfl, g4⟩)
  go_ret
  exact ⟨rfl, grown_trans G3.out g4⟩
end Go.Proofs.YtkpimelfeidcpaaDoor

/- link.Link of pieces of one jump and n returns. -/
namespace Go.Proofs.YtkpimelfeidcpaaDoor
open Go.RowKit
set_option linter.unusedVariables false

theorem OwnI.lit (w : World) (base : Nat) (l : List InV) (hb : base ≤ w.heap.size) (hm : l.length ≤ maxLen) : OwnI (w.alloc (.cells (l.flatMap cells9).toArray 26)) base (.slice (some ⟨w.heap.size, 0, none⟩) l.length l.length) l := by
  have := World.ownsRow_lit (base := base) (e := 26) (size := 9) w (l.flatMap cells9).toArray l.length hb hm (by rw [List.size_toArray]; exact flat9_len l)
  simpa [OwnI] using this
/-- instructions of one's own, appended to instructions of one's own -/
theorem wp_appIs {ops : Array Oper} {rest : List Oper} {o : Oper} {a : Act} {Q : Exit → Act → World → Prop} {W : World} (hgd : o.guard = none) (s x : Operand)
    (ho : o.op = .call { callee := .builtin .append, args := #[s, x], argTypes := #[24, 24] }) (base : Nat) (v u : Value) (l m : List InV) (b2 : Nat) (hs : a.eval s = v) (hown : OwnI W base v l)
    (hx : a.eval x = u) (hsrc : OwnI W b2 u m) (hl : l.length ≤ 1000) (hm : m.length ≤ 1000) (hb : base ≤ W.heap.size)
    (h : ∀ v' w', OwnI w' base v' (l ++ m) → W.grownBy w' v.ownBlock → wpList Tryd.prog ops Q rest (a.put o.dst v') w') : wpList Tryd.prog ops Q (o :: rest) a W := by
  obtain ⟨i, hi, hz0, hz1, hz2⟩ := info_parts info_inst
  rcases hsrc.2 with ⟨rfl, h0⟩ | ⟨T, c, cur, rfl, _⟩
  · have : m = [] := List.length_eq_zero_iff.1 h0
    subst this
    refine wpList_append_own_none hgd s x 24 ho base 26 i 9 Tryd.underlying24 hi v l.length (l.flatMap cells9) hs hown hx ?_
    exact h v W (by rw [List.append_nil]; exact hown) (World.grownBy.refl _ _)
  · refine wpList_append_own _ hgd s x 24 ho base 26 i _ 9 72 Tryd.underlying24 hi hz0 hz1 hz2 rfl (by decide) v l.length (l.flatMap cells9) hs hown ⟨T, 0, none⟩ m.length c (m.flatMap cells9) hx (by rw [flat9_len])
      (fun j y hj => World.ownsRow.cells hsrc rfl j y hj) (by intro y hy; obtain ⟨z, _, hz⟩ := List.mem_flatMap.mp hy; simp [cells9] at hz; rcases hz with rfl | rfl | rfl | rfl | rfl | rfl | rfl | rfl | rfl <;> rfl) (by unfold maxLen; omega) (by omega) hb ?_
    intro v' w2 ho2 hg2 _
    refine h v' w2 ?_ hg2
    unfold OwnI
    rw [List.length_append, List.flatMap_append]
    exact ho2
theorem insIn_own {W : World} {base T c N : Nat} {l : List InV} (h : OwnI W base (.slice (some ⟨T, 0, none⟩) l.length c) l) (hN : W.heap.size ≤ N) (hr : ∀ v, v ∈ l → InRng v) (I : Nat → InV) (hI : ∀ i (hi : i < l.length), I i = l[i]) : InsIn N W (some ⟨T, 0, none⟩) l.length c I := by
  obtain ⟨ao, c', e, hc, _⟩ := h.slice
  simp at e
  obtain ⟨_, rfl⟩ := e
  have hm : c ≤ maxLen := by
    rcases h.2 with ⟨e1, _⟩ | ⟨g, c2, cur, e1, _, _, _, hm, _⟩
    · cases e1
    · simp at e1; obtain ⟨_, rfl⟩ := e1; exact hm
  refine ⟨hc, hm, .inr ⟨T, 0, rfl, Nat.lt_of_lt_of_le (World.ownsRow.lt h T rfl).2 hN, fun i hi => ?_⟩, fun i hi => ?_⟩
  · rw [hI i hi]; exact h.inAt rfl hi
  · rw [hI i hi]; exact hr _ (List.getElem_mem hi)
namespace Lk
def aheadL (n : Nat) : List InV := [jmpV] ++ List.replicate n retV
def backL (n : Nat) : List InV := List.replicate n retV ++ [jmpV]
theorem rng_jr {v : InV} (h : v = jmpV ∨ v = retV) : InRng v := by rcases h with rfl | rfl <;> exact rng0 _ rfl rfl
end Lk
theorem ahead_in {W : World} {base T c n N Tm : Nat} (h : OwnI W base (.slice (some ⟨T, 0, none⟩) (n + 1) c) (Lk.aheadL n)) (hN : W.heap.size ≤ N) : InsIn N W (some ⟨T, 0, none⟩) (Lk.aheadP n).n c (Lk.aheadP n).I := by
  have e : (Lk.aheadL n).length = n + 1 := by simp [Lk.aheadL]
  have h' : OwnI W base (.slice (some ⟨T, 0, none⟩) (Lk.aheadL n).length c) (Lk.aheadL n) := by rw [e]; exact h
  have := insIn_own h' hN (fun v hv => Lk.rng_jr (by simp [Lk.aheadL] at hv; rcases hv with h | ⟨_, h⟩; exact .inl h; exact .inr h)) (Lk.aheadP n).I (fun i hi => by
    show (if i = 0 then Lk.jmpV else Lk.retV) = _
    by_cases e0 : i = 0
    · subst e0; simp [Lk.aheadL]
    · rw [if_neg e0]
      simp only [Lk.aheadL]
      rw [List.getElem_append_right (by simp; omega)]
      simp)
  rw [e] at this
  exact this
theorem back_in {W : World} {base T c n N : Nat} (h : OwnI W base (.slice (some ⟨T, 0, none⟩) (n + 1) c) (Lk.backL n)) (hN : W.heap.size ≤ N) : InsIn N W (some ⟨T, 0, none⟩) (Lk.backP n).n c (Lk.backP n).I := by
  have e : (Lk.backL n).length = n + 1 := by simp [Lk.backL]
  have h' : OwnI W base (.slice (some ⟨T, 0, none⟩) (Lk.backL n).length c) (Lk.backL n) := by rw [e]; exact h
  have := insIn_own h' hN (fun v hv => Lk.rng_jr (by simp [Lk.backL] at hv; rcases hv with ⟨_, h⟩ | h; exact .inr h; exact .inl h)) (Lk.backP n).I (fun i hi => by
    show (if i = n then Lk.jmpV else Lk.retV) = _
    rw [e] at hi
    by_cases e0 : i = n
    · subst e0
      simp only [Lk.backL]
      rw [List.getElem_append_right (by simp)]
      simp
    · rw [if_neg e0]
      simp only [Lk.backL]
      rw [List.getElem_append_left (by simp; omega)]
      simp)
  rw [e] at this
  exact this
/-- one piece on C64 -/
theorem far_c {W : World} (hT : TabAt W) {TP n sz : Nat} {P : Lk.PcV} {A : PcA} (hn : n ≤ 200) (hPn : P.n = n + 1) (hok : Lk.marksB P = true ∧ Lk.instsB 2 1 P = true) (hsz : ∀ L, (P.sh 2).Least L → Lk.pos ((P.sh 2).size L) (n + 1) = ((n + sz : Nat) : Int)) (hs : sz ≤ 6) (hp : PcAt W.heap.size W TP 0 P A) (hTP : TP < W.heap.size) :
    Calls Tryd.prog 5 #[.int .i64 2, .slice (some ⟨TP, 0, none⟩) 1 1, .slice none 0 0, .int .i64 0] W fun e w' => ∃ ac cc ad cd TF, e = .returned (.tuple #[.agg #[.int .i64 2, .slice ac (n + sz) cc, .slice ad 0 cd, .int .i64 0, .slice (some ⟨TF, 0, none⟩) 1 1], .int .i64 0]) ∧ W.grownBy w' none := by
  have hps : PcsIn W.heap.size W (some ⟨TP, 0, none⟩) 1 1 (fun _ => P) (fun _ => A) := ⟨Nat.le_refl _, by unfold maxLen; omega, .inr ⟨TP, 0, rfl, hTP, fun k hk => by
    obtain rfl : k = 0 := by omega
    exact hp⟩⟩
  have hB : Lk.piecesB 2 1 (fun _ => P) = true := Lk.piecesB_iff.2 fun k hk => hok
  refine (link_c (en := 0) (dg := fun _ => 0) hps hT (by decide) (by decide) (fun k hk => by rw [hPn]; omega) hB (by decide) (fun _ => ⟨rfl, rfl⟩) (.inl rfl) (fun b off h0 => by omega) (by decide)).mono ?_
  rintro e w' ⟨g, Ls, hLs, hr⟩
  have htot : Lk.pos (ends (fun _ => P) (Lk.SS 2 (fun _ => P) Ls)) 1 = ((n + sz : Nat) : Int) := by
    have h1 := hsz (Ls 0) (hLs 0 (by decide))
    show 0 + Lk.pos ((P.sh 2).size (Ls 0)) P.n = _
    rw [hPn, h1]
    omega
  rcases hr with ⟨hbig, _⟩ | ⟨_, hmx, cv, dv, TF, rfl, oc, od, _⟩
  · exfalso
    rw [htot] at hbig
    omega
  · have hLk : Lk.Lkd 2 1 (fun _ => P) Ls := ⟨fun k hk => Lk.PcV.ok_of hok.1 hok.2, hLs, fun k hk i hi => hp.ins.rng i hi, hmx⟩
    have hlen := hLk.lenA (k := 1) (Nat.le_refl _)
    rw [htot] at hlen
    obtain ⟨ac, cc, rfl, _⟩ := (OwnL.toB oc).shape
    obtain ⟨ad, cd, rfl, _⟩ := OwnB.shape od
    have e2 : (Lk.codeA 2 (fun _ => P) (Lk.SS 2 (fun _ => P) Ls) 1).length = n + sz := by omega
    rw [e2]
    exact ⟨ac, cc, ad, cd, TF, rfl, g⟩
/-- two pieces on R64 -/
theorem far_r {W : World} (hT : TabAt W) {TP n : Nat} {P Q : Lk.PcV} {A B : PcA} (hn : n ≤ 200) (hPn : P.n = n + 1) (hQn : Q.n = n + 1) (hP : Lk.marksB P = true ∧ Lk.instsB 1 2 P = true) (hQ : Lk.marksB Q = true ∧ Lk.instsB 1 2 Q = true) (hp : PcAt W.heap.size W TP 0 P A) (hq : PcAt W.heap.size W TP 3 Q B) (hTP : TP < W.heap.size) :
    Calls Tryd.prog 5 #[.int .i64 1, .slice (some ⟨TP, 0, none⟩) 2 2, .slice none 0 0, .int .i64 1] W fun e w' => ∃ ac cc ad cd TF, e = .returned (.tuple #[.agg #[.int .i64 1, .slice ac (16 * (n + 1)) cc, .slice ad 0 cd, .int .i64 (8 * ((n : Int) + 1)), .slice (some ⟨TF, 0, none⟩) 2 2], .int .i64 0]) ∧ W.grownBy w' none := by
  have hps : PcsIn W.heap.size W (some ⟨TP, 0, none⟩) 2 2 (fun k => if k = 0 then P else Q) (fun k => if k = 0 then A else B) := ⟨Nat.le_refl _, by unfold maxLen; omega, .inr ⟨TP, 0, rfl, hTP, fun k hk => by
    have : k = 0 ∨ k = 1 := by omega
    rcases this with rfl | rfl
    · exact hp
    · exact hq⟩⟩
  have hB : Lk.piecesB 1 2 (fun k => if k = 0 then P else Q) = true := Lk.piecesB_iff.2 fun k hk => by
    have : k = 0 ∨ k = 1 := by omega
    rcases this with rfl | rfl
    · exact hP
    · exact hQ
  refine (link_r (en := 1) (dg := fun _ => 0) hps hT (by decide) (by decide) (fun k hk => by
    have : k = 0 ∨ k = 1 := by omega
    rcases this with rfl | rfl
    · show (P.n : Int) ≤ _; rw [hPn]; omega
    · show (Q.n : Int) ≤ _; rw [hQn]; omega) hB (by decide) (fun _ => ⟨rfl, rfl⟩) (.inl rfl) (fun b off h0 => by omega) (by decide)).mono ?_
  rintro e w' ⟨g, Ls, hLs, hr⟩
  have h1 : Lk.pos (ends (fun k => if k = 0 then P else Q) (Lk.SS 1 (fun k => if k = 0 then P else Q) Ls)) 1 = 8 * ((n : Int) + 1) := by
    show 0 + Lk.pos ((P.sh 1).size (Ls 0)) P.n = _
    rw [hPn, Lk.pos_r]
    omega
  have htot : Lk.pos (ends (fun k => if k = 0 then P else Q) (Lk.SS 1 (fun k => if k = 0 then P else Q) Ls)) 2 = 16 * ((n : Int) + 1) := by
    rw [Lk.pos_succ, h1]
    show 8 * ((n : Int) + 1) + Lk.pos ((Q.sh 1).size (Ls 1)) Q.n = _
    rw [hQn, Lk.pos_r]
    omega
  rcases hr with ⟨hbig, _⟩ | ⟨_, hmx, cv, dv, TF, rfl, oc, od, _⟩
  · exfalso
    rw [htot] at hbig
    omega
  · have hLk : Lk.Lkd 1 2 (fun k => if k = 0 then P else Q) Ls := ⟨fun k hk => by
        have := Lk.piecesB_iff.1 hB k hk
        exact Lk.PcV.ok_of this.1 this.2, hLs, fun k hk i hi => by
        have : k = 0 ∨ k = 1 := by omega
        rcases this with rfl | rfl
        · exact hp.ins.rng i hi
        · exact hq.ins.rng i hi, hmx⟩
    have hlen := hLk.lenA (k := 2) (Nat.le_refl _)
    rw [htot] at hlen
    obtain ⟨ac, cc, rfl, _⟩ := (OwnL.toB oc).shape
    obtain ⟨ad, cd, rfl, _⟩ := OwnB.shape od
    have e2 : (Lk.codeA 1 (fun k => if k = 0 then P else Q) (Lk.SS 1 (fun k => if k = 0 then P else Q) Ls) 2).length = 16 * (n + 1) := by omega
    rw [e2, h1]
    exact ⟨ac, cc, ad, cd, TF, rfl, g⟩
end Go.Proofs.YtkpimelfeidcpaaDoor
