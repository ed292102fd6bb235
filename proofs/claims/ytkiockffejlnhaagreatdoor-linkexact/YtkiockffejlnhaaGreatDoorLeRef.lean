/- gantryref6.Link. -/
import Derived.Test.YtkiockffejlnhaaGreatDoorG21
namespace Go.Proofs.YtkiockffejlnhaaGreatDoor
set_option maxRecDepth 100000
set_option maxHeartbeats 32000000
open Go.RowKit
set_option linter.unusedVariables false
theorem wp_appSw {ops : Array Oper} {rest : List Oper} {o : Oper} {a : Act} {Q : Exit → Act → World → Prop} {W : World} (hgd : o.guard = none) (s x : Operand)
  (ho : o.op = .call { callee := .builtin .append, args := #[s, x], argTypes := #[24, 24] }) (base : Nat) (v : Value) (l m : List Int) (T c b2 : Nat) (hs : a.eval s = v) (hown : OwnL W base v l)
  (hx : a.eval x = .slice (some ⟨T, 0, none⟩) m.length c) (hsrc : OwnL W b2 (.slice (some ⟨T, 0, none⟩) m.length c) m) (hl : l.length ≤ 2000000) (hm : m.length ≤ 1000) (hb : base ≤ W.heap.size)
  (h : ∀ v' w', OwnL w' base v' (l ++ m) → W.grownBy w' v.ownBlock → wpList Tryz.prog ops Q rest (a.put o.dst v') w') : wpList Tryz.prog ops Q (o :: rest) a W := by
 obtain ⟨i, hi, hz0, hz1, hz2⟩ := info_parts info_u8
 refine wpList_append_own _ hgd s x 24 ho base 5 i (.int .u8 0) 1 1 Tryz.underlying24 hi hz0 hz1 hz2 rfl (by decide) v l.length (l.map (Value.int .u8)) hs hown ⟨T, 0, none⟩ m.length c (m.map (Value.int .u8)) hx (by simp)
  (fun j y hj => World.ownsRow.cells hsrc rfl j y hj) (by intro y hy; obtain ⟨z, _, rfl⟩ := List.mem_map.mp hy; rfl) (by unfold maxLen; omega) (by omega) hb ?_
 intro v' w2 ho2 hg2 _
 exact h v' w2 (OwnL.app ho2) hg2
def bytV (E : List Int) (b : Nat) : Value → World → Prop := fun v w => ∃ T cp, v = .slice (some ⟨T, 0, none⟩) E.length cp ∧ OwnL w b v E
theorem stab_byt (E : List Int) (b : Nat) : StabV (bytV E b) := fun v w w' ⟨T, cp, h1, h2⟩ g => ⟨T, cp, h1, h2.kept g (Classical.em _)⟩
theorem Ph.cellF {W4 wr : World} {IB FB k fc : Nat} {t : Int} {cv dv al : Value} {V : Nat → Lk.PcV} {S : Nat → Nat → Int} {SL : List Value} (h : Ph W4 wr IB t cv dv (.slice (some ⟨FB, 0, none⟩) k fc) al V S k SL) {i : Nat} (hi : i < k) : wr.cell? ⟨FB, i, none⟩ = some (.int .i64 (Lk.pos (ends V S) i)) := by
 have hn := h.fz.n
 rw [List.length_map, List.length_range] at hn
 have hc := hn.cell (i := i) hi
 rw [show ((List.range k).map (Lk.pos (ends V S))).getD i 0 = Lk.pos (ends V S) i from by simp [List.getD_eq_getElem?_getD, hi]] at hc
 exact hc
theorem Ph.cellL {W4 wr : World} {IB LB lc k : Nat} {t : Int} {cv dv fv : Value} {V : Nat → Lk.PcV} {S : Nat → Nat → Int} {SL : List Value} (h : Ph W4 wr IB t cv dv fv (.slice (some ⟨LB, 0, none⟩) k lc) V S k SL) {i : Nat} (hi : i < k) : ∃ T tc, wr.cell? ⟨LB, i, none⟩ = some (.slice (some ⟨T, 0, none⟩) ((V i).n + 1) tc) ∧ ∀ j, j ≤ (V i).n → wr.cell? ⟨T, j, none⟩ = some (.int .i64 (Lk.pos (S i) j)) := by
 obtain ⟨T, tc, e, _, _, _, _, hc⟩ := (h.pl i hi).ex
 refine ⟨T, tc, ?_, hc⟩
 have h1 := h.al
 unfold OwnS at h1
 rw [h.len] at h1
 rw [World.ownsRow.cellAt h1 i (by omega)]
 exact e
theorem Ph.cellI {W4 wr : World} {IB q : Nat} {t : Int} {cv dv fv al : Value} {V : Nat → Lk.PcV} {S : Nat → Nat → Int} {SL : List Value} (h : Ph W4 wr IB t cv dv fv al V S q SL) : wr.cell? ⟨IB, 1, none⟩ = some cv ∧ wr.cell? ⟨IB, 4, none⟩ = some fv ∧ (∀ q, wr.frozen? ⟨IB, q, none⟩ = false) := ⟨(rowIs_five h.img).2.1, (rowIs_five h.img).2.2.2.2.1, (rowIs_five h.img).2.2.2.2.2⟩
theorem Ph.cellI' {W4 wr w1 w2 : World} {IB q : Nat} {t : Int} {cv dv fv al : Value} {V : Nat → Lk.PcV} {S : Nat → Nat → Int} {SL : List Value} {l : List Int} (h : Ph W4 wr IB t cv dv fv al V S q SL) (oc : OwnL wr W4.heap.size cv l) (g1 : wr.grownBy w1 none) (g2 : w1.grownBy w2 cv.ownBlock) : w2.cell? ⟨IB, 1, none⟩ = some cv ∧ w2.frozen? ⟨IB, 1, none⟩ = false := by
 have hlt := h.lt
 have r := rowIs_ch (rowIs_grown h.img g1) (grown_ch g2) (fun hm => by have := (World.ownsRow.lt oc IB (by simpa using hm)).1; omega)
 exact ⟨(rowIs_five r).2.1, (rowIs_five r).2.2.2.2.2 1⟩
theorem Ph.cellT {W4 wr : World} {IB q : Nat} {t : Int} {cv dv fv al : Value} {V : Nat → Lk.PcV} {S : Nat → Nat → Int} {SL : List Value} (h : Ph W4 wr IB t cv dv fv al V S q SL) {j : Nat} (hj : j < q) {T c m : Nat} (e : SL[j]? = some (.slice (some ⟨T, 0, none⟩) m c)) {i : Nat} (hi : i ≤ (V j).n) : wr.cell? ⟨T, i, none⟩ = some (.int .i64 (Lk.pos (S j) i)) := by
 obtain ⟨T', c', e1, _, _, _, _, e6⟩ := (h.pl j hj).ex
 rw [e] at e1
 simp at e1
 rw [e1.1]
 exact e6 i hi
theorem last_at {l : List Value} {x : Value} {k : Nat} (h : l.length = k) : (l ++ [x])[k]? = some x := by subst h; simp
def RfRes (t : Int) (K : Nat) (V : Nat → Lk.PcV) (S : Nat → Nat → Int) (dn : Nat) (dg : Nat → Int) (en : Nat) (w : World) (e : Ending) (w' : World) : Prop :=
 (1048576 < Lk.pos (ends V S) K ∧ e = .returned (.tuple #[.agg #[.int .i64 0, .slice none 0 0, .slice none 0 0, .int .i64 0, .slice none 0 0], .bool false])) ∨
 (Lk.pos (ends V S) K ≤ 1048576 ∧ ∃ cv dv fv, e = .returned (.tuple #[.agg #[.int .i64 t, cv, dv, .int .i64 (Lk.pos (ends V S) en), fv], .bool true]) ∧ OwnL w' w.heap.size cv (Lk.codeA t V S K) ∧ OwnB w' w.heap.size dv dn dg ∧ OwnZ w' w.heap.size fv ((List.range K).map (Lk.pos (ends V S))))
theorem gr_any {t : Int} (ht : t = 1 ∨ t = 2) {N : Nat} {w : World} {P : Lk.PcV} {ia ma : Option Addr} {ic mc : Nat} {out p : Int} {L0 : Nat → Bool} (h : InsIn N w ia P.n ic P.I) (hm : NumIn N w ma P.m mc P.M) (hok : P.Ok t p) (hL : (P.sh t).Least L0) (hn : P.n * 72 ≤ reachBytes) (hN : N ≤ w.heap.size) :
  Calls Tryz.prog 29 #[.int .i64 t, .agg #[.slice ia P.n ic, .slice ma P.m mc, .int .i64 out]] w fun e w' => ∃ v1 T c, e = .returned (.tuple #[v1, .slice (some ⟨T, 0, none⟩) (P.n + 1) c]) ∧ OwnZ w' w.heap.size (.slice (some ⟨T, 0, none⟩) (P.n + 1) c) ((List.range (P.n + 1)).map (Lk.pos ((P.sh t).size L0))) ∧ w.grownBy w' none := by
 have hx : ∀ (e : Ending) w', (∃ v1 v2, e = .returned (.tuple #[v1, v2]) ∧ OwnZ w' w.heap.size v2 ((List.range (P.n + 1)).map (Lk.pos ((P.sh t).size L0))) ∧ w.grownBy w' none) → ∃ v1 T c, e = .returned (.tuple #[v1, .slice (some ⟨T, 0, none⟩) (P.n + 1) c]) ∧ OwnZ w' w.heap.size (.slice (some ⟨T, 0, none⟩) (P.n + 1) c) ((List.range (P.n + 1)).map (Lk.pos ((P.sh t).size L0))) ∧ w.grownBy w' none := by
  rintro e w' ⟨v1, v2, he, ho, hg⟩
  obtain ⟨a, c, hv, _, _, ha⟩ := ho.slice
  simp only [List.length_map, List.length_range] at hv ha
  obtain ⟨T, rfl, _⟩ := ha (by omega)
  subst hv
  exact ⟨v1, T, c, he, ho, hg⟩
 rcases ht with rfl | rfl
 ·exact (rgrown_r h hm hok hL hn hN).mono hx
 ·exact (rgrown_c h hm hok hL hn hN).mono hx
theorem rlink_any {t : Int} (ht : t = 1 ∨ t = 2) {N : Nat} {w : World} {a : Option Addr} {K c : Nat} {V : Nat → Lk.PcV} {A : Nat → PcA} (h : PcsIn N w a K c V A) (hN : N ≤ w.heap.size) (h0 : 0 < K) (hK : K ≤ 33) {en : Nat} (hen : en < K) (hok : ∀ k, k < K → (V k).Ok t K) {Ls : Nat → Nat → Bool} (hL : ∀ k, k < K → ((V k).sh t).Least (Ls k)) (hib : ∀ k, k < K → (V k).n * 72 ≤ reachBytes)
  {da : Option Addr} {dn dc : Nat} {dg : Nat → Int} (hd : BsIn w da dn dc dg) (hdn : dn ≤ 3000) :
  Calls Tryz.prog 14 #[.int .i64 t, .slice a K c, .slice da dn dc, .int .i64 en] w fun e w' => w.grownBy w' none ∧ RfRes t K V (Lk.SS t V Ls) dn dg en w e w' := by
 obtain ⟨b, off, rfl, hbN, _⟩ := h.at h0
 have hle := h.le
 have hmx := h.max
 have hdl := hd.le
 have hdm := hd.max
 unfold maxLen at hmx hdm
 have h0' : (0 : Int) < K := by omega
 have hen' : (en : Int) < K := by omega
 have hdn' : ¬ (1048576 : Int) < dn := by omega
 obtain ⟨S, hS⟩ : ∃ S, S = Lk.SS t V Ls := ⟨_, rfl⟩
 have HSr : Hid (∀ k i : Nat, 0 ≤ Lk.pos (S k) i ∧ Lk.pos (S k) i ≤ 33 * (i : Int)) := fun k i => pos_rng (fun j => by rw [hS]; show 0 ≤ ((V k).sh t).size (Ls k) j ∧ _; rw [sh_size]; exact szT_rng ht _ _) i
 have HNn : Hid (∀ k, k < K → ((V k).n : Int) ≤ 1954687338212) := fun k hk => by have : (V k).n * 72 ≤ 140737488351232 := hib k hk; omega
 have HGr : Hid (∀ k, k < K → ∀ W, w.grownBy W none → Calls Tryz.prog 29 #[.int .i64 t, .agg #[.slice (A k).ia (V k).n (A k).ic, .slice (A k).ma (V k).m (A k).mc, .int .i64 (A k).out]] W fun e w' => ∃ v1 T c, e = .returned (.tuple #[v1, .slice (some ⟨T, 0, none⟩) ((V k).n + 1) c]) ∧ OwnZ w' W.heap.size (.slice (some ⟨T, 0, none⟩) ((V k).n + 1) c) ((List.range ((V k).n + 1)).map (Lk.pos (S k))) ∧ W.grownBy w' none) := fun k hk W g => by
  obtain ⟨_, _, _, _, hp⟩ := (h.grow g).at hk
  rw [hS]
  exact gr_any ht hp.ins hp.mks (hok k hk) (hL k hk) (hib k hk) (Nat.le_trans hN g.size)
 have HPc : Hid (∀ k, k < K → ∀ W, w.grownBy W none → PcAt N W b (off + k * 3) (V k) (A k)) := fun k hk W g => by
  obtain ⟨b2, o2, e, _, hp⟩ := (h.grow g).at hk
  simp at e
  obtain ⟨rfl, rfl⟩ := e
  exact hp
 have HLk : Hid (Lk.pos (ends V S) K ≤ 1048576 → Lk.Lkd t K V Ls) := fun hm => ⟨hok, hL, fun k hk i hi => by obtain ⟨_, _, _, _, hp⟩ := h.at hk; exact hp.ins.rng i hi, by rw [hS] at hm; exact hm⟩
 have HE0 : Hid (∀ k, k ≤ K → 0 ≤ Lk.pos (ends V S) k) := fun k hk => by
  have := Lk.pos_mono (s := ends V S) (Nat.zero_le k) (fun j _ hj => (HSr.out j (V j).n).1)
  simpa [Lk.pos] using this
 have HEm : Hid (∀ k, k ≤ K → 1048576 < Lk.pos (ends V S) k → 1048576 < Lk.pos (ends V S) K) := fun k hk hx => by
  have := Lk.pos_mono (s := ends V S) hk (fun j _ hj => (HSr.out j (V j).n).1)
  show _ < _
  omega
 have HCp : Hid (∀ W, w.grownBy W none → Calls Tryz.prog 7 #[.slice da dn dc] W fun e w' => ∃ v, e = .returned v ∧ OwnB w' W.heap.size v dn dg ∧ W.grownBy w' none) := fun W g => copyB dn dc da dg W (by omega) hd.nil (hd.kept g).bs
 have Hst : Hid (S = Lk.SS t V Ls) := hS
 have Hok : Hid (∀ k, k < K → (V k).Ok t K) := hok
 rw [← hS]
 clear h hS hok hL hib hd
 obtain ⟨W1, hW1⟩ : ∃ W1, W1 = w.alloc (.cells #[.int .i64 0, .slice none 0 0, .slice none 0 0, .int .i64 0, .slice none 0 0] 32) := ⟨_, rfl⟩
 obtain ⟨RB, hRB⟩ : ∃ RB, RB = w.heap.size := ⟨_, rfl⟩
 have g1 : w.grownBy W1 none := by rw [hW1]; exact gal
 have r1 : W1.rowIs RB 32 5 (row5 (.int .i64 0) (.slice none 0 0) (.slice none 0 0) (.int .i64 0) (.slice none 0 0)) := by rw [hW1, hRB]; exact row5_new _ _ _ _ _ _ _
 have HW1 : Hid (W1 = w.alloc (.cells #[.int .i64 0, .slice none 0 0, .slice none 0 0, .int .i64 0, .slice none 0 0] 32) ∧ RB = w.heap.size ∧ w.grownBy W1 none ∧ W1.rowIs RB 32 5 (row5 (.int .i64 0) (.slice none 0 0) (.slice none 0 0) (.int .i64 0) (.slice none 0 0))) := ⟨hW1, hRB, g1, r1⟩
 clear hW1 hRB g1 r1
 go_enter Tryz.func14, Tryz.ntmps14
 go_wp2_with (go_at_call 7; rw [← HW1.out.1, ← HW1.out.2.1]; refine (HCp.out _ HW1.out.2.2.1).mono ?_; rintro e w2 ⟨dv0, rfl, od, gd⟩; obtain ⟨dao, dcp, hdv, _⟩ := od.shape; subst hdv; have HD : Hid (OwnB w2 W1.heap.size (.slice dao dn dcp) dn dg ∧ W1.grownBy w2 none) := ⟨od, gd⟩; clear od gd)
 obtain ⟨W4, hW4⟩ : ∃ W4, W4 = w2.alloc (.cells #[.int .i64 t, .slice none 0 0, (.slice dao dn dcp), .int .i64 0, .slice none 0 0] 32) := ⟨_, rfl⟩
 obtain ⟨IB, hIB⟩ : ∃ IB, IB = w2.heap.size := ⟨_, rfl⟩
 have g4 : w2.grownBy W4 none := by rw [hW4]; exact gal
 have gw : w.grownBy W4 none := gtr HW1.out.2.2.1 (gtr HD.out.2 g4)
 have r4 : W4.rowIs IB 32 5 (row5 (.int .i64 t) (.slice none 0 0) (.slice dao dn dcp) (.int .i64 0) (.slice none 0 0)) := by rw [hW4, hIB]; exact row5_new _ _ _ _ _ _ _
 have s4 : W4.heap.size = IB + 1 := by rw [hW4, hIB]; simp
 have HW4 : Hid (w.grownBy W4 none ∧ W4.heap.size = IB + 1 ∧ W4.rowIs RB 32 5 (row5 (.int .i64 0) (.slice none 0 0) (.slice none 0 0) (.int .i64 0) (.slice none 0 0)) ∧ RB < IB ∧ OwnB W4 w.heap.size (.slice dao dn dcp) dn dg ∧ (∀ q, (Value.slice dao dn dcp).ownBlock = some q → q < IB ∧ RB < q)) := ⟨gw, s4, rowIs_grown HW1.out.2.2.2 (gtr HD.out.2 g4), by
   have := HW1.out.2.2.2.lt
   have := HD.out.2.size
   omega, World.ownsRow.mono (HD.out.1.kept g4 (Classical.em _)) HW1.out.2.2.1.size, fun q hq => by have := HD.out.1.lt q hq; have := HW1.out.2.2.2.lt; omega⟩
 have HP0 : Hid (Ph W4 W4 IB t (.slice none 0 0) (.slice dao dn dcp) (.slice none 0 0) (.slice none 0 0) V S 0 []) := ⟨by omega, r4, World.ownsRow_nil _ _ _ _, World.ownsRow_nil _ _ _ _, rfl, fun j hj => by omega, Ch.refl _ _⟩
 have HIBw : Hid (IB = w2.heap.size) := hIB
 rw [← hW4, ← hIB]
 clear hW4 hIB g4 gw r4 s4
 have HRz : Hid (∀ W, Ch W4 W [IB] → W.rowIs RB 32 5 (row5 (.int .i64 0) (.slice none 0 0) (.slice none 0 0) (.int .i64 0) (.slice none 0 0)) ∧ w.grownBy W none ∧ OwnB W w.heap.size (.slice dao dn dcp) dn dg) := fun W g => ⟨rowIs_ch HW4.out.2.2.1 g (by have := HW4.out.2.2.2.1; simp; omega), by
   have e1 := (Ch.of (l := [IB]) HW4.out.1).trans g
   have := HW4.out.1.size
   have h3 := HW1.out.2.1
   have := HW4.out.2.2.2.1
   exact e1.nil (fun q hq => by simp at hq; omega), ownsRow_ch HW4.out.2.2.2.2.1 g (fun q hq => by have := (HW4.out.2.2.2.2.2 q hq).1; simp; omega)⟩
 go_loopw [11, 12, 13] (fun x al ix wr => ∃ (k : Nat) (SL : List Value) (fv : Value), ix = .int .i64 k ∧ k ≤ K ∧ x = .int .i64 (Lk.pos (ends V S) k) ∧ Lk.pos (ends V S) k ≤ 1048576 ∧ Ph W4 wr IB t (.slice none 0 0) (.slice dao dn dcp) fv al V S k SL) (fun _ _ ix _ => K - (intOf ix).toNat)
 case atStart => exact ⟨0, [], _, rfl, Nat.zero_le _, rfl, by simp [Lk.pos], HP0.out⟩
 case round =>
  obtain ⟨k, SL, fv0, rfl, hk, rfl, hx, hph⟩ := hrel
  obtain ⟨fa, fc, hfv, hfl, hfm, hfa⟩ := hph.fz.slice
  simp only [List.length_map, List.length_range] at hfv hfl hfa
  subst hfv
  have HPh : Hid (Ph W4 wr IB t (.slice none 0 0) (.slice dao dn dcp) (.slice fa k fc) _ V S k SL) := hph
  have hsz := hph.ch.size
  by_cases hkK : k < K
  ·have hkK' : (k : Int) < K := by omega
   obtain ⟨rz, gz, _⟩ := HRz.out wr hph.ch
   have hpc := HPc.out k hkK wr gz
   have c0 := hpc.c0
   have c1 := hpc.c1
   have c2 := hpc.c2
   have HG := HGr.out k hkK wr gz
   have hn := HNn.out k hkK
   have he0 := HE0.out k (by omega)
   have hsn := HSr.out k (V k).n
   have HEs : Hid (Lk.pos (ends V S) (k + 1) = Lk.pos (ends V S) k + Lk.pos (S k) (V k).n) := rfl
   clear hpc hph rz gz
   obtain ⟨n, hnn⟩ : ∃ n, n = (V k).n := ⟨_, rfl⟩
   obtain ⟨x, hxx⟩ : ∃ x, x = Lk.pos (ends V S) k := ⟨_, rfl⟩
   obtain ⟨y, hyy⟩ : ∃ y, y = Lk.pos (S k) (V k).n := ⟨_, rfl⟩
   rw [← hyy] at hsn HEs
   rw [← hxx] at HEs he0 hx ⊢
   rw [← hnn] at c0 hn hsn
   generalize A k = B at *
   generalize (V k).m = m at *
   have HG : Hid (Calls Tryz.prog 29 #[.int .i64 t, .agg #[.slice B.ia n B.ic, .slice B.ma m B.mc, .int .i64 B.out]] wr fun e w' => ∃ v1 T c, e = .returned (.tuple #[v1, .slice (some ⟨T, 0, none⟩) (n + 1) c]) ∧ OwnZ w' wr.heap.size (.slice (some ⟨T, 0, none⟩) ((V k).n + 1) c) ((List.range ((V k).n + 1)).map (Lk.pos (S k))) ∧ wr.grownBy w' none) := by rw [hnn]; exact HG
   have HNx : Hid (n = (V k).n ∧ x = Lk.pos (ends V S) k ∧ y = Lk.pos (S k) (V k).n) := ⟨hnn, hxx, hyy⟩
   clear hnn hxx hyy
   have hlt := HPh.out.lt
   have nIal : IB ∉ u12.ownBlock.toList := fun hm => by have := (World.ownsRow.lt HPh.out.al IB (by simpa using hm)).1; omega
   have nIfv : IB ∉ (Value.slice fa k fc).ownBlock.toList := fun hm => by have := (World.ownsRow.lt HPh.out.fz IB (by simpa using hm)).1; omega
   have NI : Hid (IB ∉ u12.ownBlock.toList ∧ IB ∉ (Value.slice fa k fc).ownBlock.toList) := ⟨nIal, nIfv⟩
   clear nIal nIfv
   have hlk := HPh.out.len
   by_cases hbig : x + y ≤ 1048576
   ·have hbig' : ¬ (1048576 : Int) < x + y := by omega
    go_wp2_with (first
     | (go_at_call 29; refine HG.out.mono ?_; rintro e w1 ⟨v1, T, tc, rfl, o1, g1⟩; have H1 : Hid (OwnZ w1 wr.heap.size (.slice (some ⟨T, 0, none⟩) ((V k).n + 1) tc) ((List.range ((V k).n + 1)).map (Lk.pos (S k))) ∧ wr.grownBy w1 none) := ⟨o1, g1⟩; have s1 := g1.size; clear o1 g1)
     | (at_builtin; refine wp_appSl rfl _ _ rfl W4.heap.size u12 SL (some ⟨T, 0, none⟩) (n + 1) tc rfl (HPh.out.grow H1.out.2).al rfl rfl (by omega) (by omega) ?_; intro al' w3 o2 g2; have H2 : Hid (OwnS w3 W4.heap.size al' (SL ++ [.slice (some ⟨T, 0, none⟩) ((V k).n + 1) tc]) ∧ w1.grownBy w3 u12.ownBlock) := ⟨by rw [← HNx.out.1]; exact o2, g2⟩; have s2 := g2.size; have m4 := (rowIs_five (rowIs_ch (rowIs_grown HPh.out.img H1.out.2) (grown_ch g2) NI.out.1)).2.2.2.2.1; clear o2 g2)
     | (at_builtin; refine wp_appZb rfl _ _ rfl W4.heap.size (.slice fa k fc) ((List.range k).map (Lk.pos (ends V S))) x rfl ((HPh.out.grow H1.out.2).fz.ch (grown_ch H2.out.2) (rows_apart (HPh.out.grow H1.out.2).fz (HPh.out.grow H1.out.2).al (by decide))) rfl rfl (by simp; omega) (by omega) ?_; intro fv0 w5 o3 g3 q3; obtain ⟨fa', fc', hfv', _⟩ := o3.slice; (simp only [List.length_append, List.length_map, List.length_range, List.length_cons, List.length_nil, Nat.zero_add] at hfv'); subst hfv'; have H3 : Hid (Ph W4 (w5.setCell ⟨IB, 4, none⟩ (.slice fa' (k + 1) fc')) IB t (.slice none 0 0) (.slice dao dn dcp) (.slice fa' (k + 1) fc') al' V S (k + 1) (SL ++ [.slice (some ⟨T, 0, none⟩) ((V k).n + 1) tc])) := HPh.out.step1 H1.out.2 H1.out.1 H2.out.1 H2.out.2 (by rw [← HNx.out.2.1]; exact o3) g3 q3; have r5 := rowIs_ch (rowIs_ch (rowIs_grown HPh.out.img H1.out.2) (grown_ch H2.out.2) NI.out.1) (grown_ch g3) NI.out.2; have m5 := (rowIs_five r5).2.2.2.2.1; have z5 := (rowIs_five r5).2.2.2.2.2 4; have t9 : (w5.setCell ⟨IB, 4, none⟩ (.slice fa' (k + 1) fc')).cell? ⟨T, n, none⟩ = some (.int .i64 y) := (by rw [HNx.out.1, HNx.out.2.2]; exact H3.out.cellT (by omega) (last_at hlk) (Nat.le_refl _)); clear o3 g3 q3 r5))
    go_roundw
    case rel => exact ⟨k + 1, _, _, by go_num, by omega, congrArg (Value.int IntKind.i64) HEs.out.symm, by rw [HEs.out]; exact hbig, H3.out⟩
    case measure => simp [intOf]; omega
   ·have hbig' : (1048576 : Int) < x + y := by omega
    go_wp2_with (first
     | (go_at_call 29; refine HG.out.mono ?_; rintro e w1 ⟨v1, T, tc, rfl, o1, g1⟩; have H1 : Hid (OwnZ w1 wr.heap.size (.slice (some ⟨T, 0, none⟩) ((V k).n + 1) tc) ((List.range ((V k).n + 1)).map (Lk.pos (S k))) ∧ wr.grownBy w1 none) := ⟨o1, g1⟩; have s1 := g1.size; clear o1 g1)
     | (at_builtin; refine wp_appSl rfl _ _ rfl W4.heap.size u12 SL (some ⟨T, 0, none⟩) (n + 1) tc rfl (HPh.out.grow H1.out.2).al rfl rfl (by omega) (by omega) ?_; intro al' w3 o2 g2; have H2 : Hid (OwnS w3 W4.heap.size al' (SL ++ [.slice (some ⟨T, 0, none⟩) ((V k).n + 1) tc]) ∧ w1.grownBy w3 u12.ownBlock) := ⟨by rw [← HNx.out.1]; exact o2, g2⟩; have s2 := g2.size; have m4 := (rowIs_five (rowIs_ch (rowIs_grown HPh.out.img H1.out.2) (grown_ch g2) NI.out.1)).2.2.2.2.1; clear o2 g2)
     | (at_builtin; refine wp_appZb rfl _ _ rfl W4.heap.size (.slice fa k fc) ((List.range k).map (Lk.pos (ends V S))) x rfl ((HPh.out.grow H1.out.2).fz.ch (grown_ch H2.out.2) (rows_apart (HPh.out.grow H1.out.2).fz (HPh.out.grow H1.out.2).al (by decide))) rfl rfl (by simp; omega) (by omega) ?_; intro fv0 w5 o3 g3 q3; obtain ⟨fa', fc', hfv', _⟩ := o3.slice; (simp only [List.length_append, List.length_map, List.length_range, List.length_cons, List.length_nil, Nat.zero_add] at hfv'); subst hfv'; have H3 : Hid (Ph W4 (w5.setCell ⟨IB, 4, none⟩ (.slice fa' (k + 1) fc')) IB t (.slice none 0 0) (.slice dao dn dcp) (.slice fa' (k + 1) fc') al' V S (k + 1) (SL ++ [.slice (some ⟨T, 0, none⟩) ((V k).n + 1) tc])) := HPh.out.step1 H1.out.2 H1.out.1 H2.out.1 H2.out.2 (by rw [← HNx.out.2.1]; exact o3) g3 q3; have r5 := rowIs_ch (rowIs_ch (rowIs_grown HPh.out.img H1.out.2) (grown_ch H2.out.2) NI.out.1) (grown_ch g3) NI.out.2; have m5 := (rowIs_five r5).2.2.2.2.1; have z5 := (rowIs_five r5).2.2.2.2.2 4; have t9 : (w5.setCell ⟨IB, 4, none⟩ (.slice fa' (k + 1) fc')).cell? ⟨T, n, none⟩ = some (.int .i64 y) := (by rw [HNx.out.1, HNx.out.2.2]; exact H3.out.cellT (by omega) (last_at hlk) (Nat.le_refl _)); obtain ⟨q0, q1, q2, q3', q4, qf⟩ := rowIs_five (HRz.out _ H3.out.ch).1; have f0 := qf 0; have f1 := qf 1; have f2 := qf 2; have f3 := qf 3; have f4 := qf 4; clear o3 g3 q3 r5 qf))
    refine bodyPost_ret (by simp [results, Tryz.results14, go_sem, q0, q1, q2, q3', q4]; try rfl) rfl ?_
    refine ⟨?_, .inl ⟨HEm.out (k + 1) (by omega) (by rw [HEs.out]; exact hbig'), rfl⟩⟩
    have gz := (HRz.out _ H3.out.ch).2.1
    have hrb := HW1.out.2.1
    repeat (refine gs ?_ _ _ (by omega))
    exact gz
  ·obtain rfl : k = K := by omega
   have HLd : Hid (Lk.Lkd t k V Ls) := HLk.out hx
   obtain ⟨LB, lc, hal⟩ : ∃ LB lc, u12 = .slice (some ⟨LB, 0, none⟩) k lc := by
    rcases hph.al.2 with ⟨_, h5⟩ | ⟨g, c5, cur, h5, _⟩
    ·have := hph.len; omega
    ·exact ⟨g, c5, by rw [h5, hph.len]⟩
   subst hal
   obtain ⟨FB, rfl, _⟩ := hfa (by omega)
   have H0 : Hid (Ph W4 wr IB t (.slice none 0 0) (.slice dao dn dcp) (.slice (some ⟨FB, 0, none⟩) k fc) (.slice (some ⟨LB, 0, none⟩) k lc) V S k SL) := hph
   obtain ⟨w8, hw8⟩ : ∃ w8, w8 = wr := ⟨_, rfl⟩
   rw [← hw8] at H0 ⊢
   clear hw8 hph HPh
   go_wp2_with fail
   go_loopw [16] (fun ix wr => ∃ (i : Nat) (cv : Value), ix = .int .i64 i ∧ i ≤ k ∧ Ph W4 wr IB t cv (.slice dao dn dcp) (.slice (some ⟨FB, 0, none⟩) k fc) (.slice (some ⟨LB, 0, none⟩) k lc) V S k SL ∧ OwnL wr W4.heap.size cv (Lk.codeA t V S i)) (fun ix _ => k - (intOf ix).toNat)
   case atStart => exact ⟨0, _, rfl, Nat.zero_le _, H0.out, OwnL.nil _ _⟩
   case round =>
    obtain ⟨i, cv1, rfl, hi, hph, hcv⟩ := hrel
    obtain ⟨wo, hwo⟩ : ∃ wo, wo = wr := ⟨_, rfl⟩
    rw [← hwo] at hph hcv ⊢
    clear hwo
    have HPo : Hid (Ph W4 wo IB t cv1 (.slice dao dn dcp) (.slice (some ⟨FB, 0, none⟩) k fc) (.slice (some ⟨LB, 0, none⟩) k lc) V S k SL) := hph
    have HCo : Hid (OwnL wo W4.heap.size cv1 (Lk.codeA t V S i)) := hcv
    by_cases hik : i < k
    case neg =>
     obtain rfl : i = k := by omega
     obtain ⟨ao, cp, hcv1, _⟩ := hcv.toB.shape
     obtain ⟨L, hLL⟩ : ∃ L, L = Lk.codeA t V S i := ⟨_, rfl⟩
     rw [← hLL] at hcv hcv1
     subst hcv1
     have HOr : Hid (OwnL wo W4.heap.size (.slice ao L.length cp) L ∧ L = Lk.codeA t V S i) := ⟨hcv, hLL⟩
     have t5 := hph.cellF hen
     obtain ⟨m0, m1, m2, m3, m4, mf⟩ := rowIs_five hph.img
     obtain ⟨q0, q1, q2, q3, q4, qf⟩ := rowIs_five (HRz.out wo hph.ch).1
     have z3 := mf 3
     have f0 := qf 0
     have f1 := qf 1
     have f2 := qf 2
     have f3 := qf 3
     have f4 := qf 4
     have hne : ¬ IB = RB := by have := HW4.out.2.2.2.1; omega
     have hne' : ¬ RB = IB := by have := HW4.out.2.2.2.1; omega
     obtain ⟨x, hx9⟩ : ∃ x, x = Lk.pos (ends V S) en := ⟨_, rfl⟩
     rw [← hx9] at t5
     have HX9 : Hid (x = Lk.pos (ends V S) en) := hx9
     clear hph hcv mf qf hLL hx9
     go_wp2
     refine bodyPost_ret (by simp [results, Tryz.results14, go_sem, q0, q1, q2, q3, q4]; try rfl) rfl ?_
     have hrb := HW1.out.2.1
     have hch := HPo.out.ch
     have hrl := HW4.out.2.2.2.1
     have hs4 := HW4.out.2.1
     have gz := HRz.out wo hch
     have hws := HW4.out.1.size
     generalize hw9 : World.setCell (World.setCell _ _ _) _ _ = w9
     have c9 : Ch wo w9 [IB, RB] := by
      rw [← hw9]
      exact ((((((Ch.one (grown_set _ _ _ _) (by simp)).trans (Ch.one (grown_set _ _ _ _) (by simp))).trans (Ch.one (grown_set _ _ _ _) (by simp))).trans (Ch.one (grown_set _ _ _ _) (by simp))).trans (Ch.one (grown_set _ _ _ _) (by simp))).trans (Ch.one (grown_set _ _ _ _) (by simp)))
     refine ⟨((Ch.of (l := [IB, RB]) gz.2.1).trans c9).nil (fun q hq => by simp at hq; omega), .inr ⟨hx, _, _, _, by rw [← HX9.out], ?_, ?_, ?_⟩⟩
     ·rw [← HOr.out.2]
      exact (ownsRow_ch HOr.out.1 c9 (fun q hq => by have := (World.ownsRow.lt HOr.out.1 q hq).1; simp; omega)).mono hws
     ·exact ownsRow_ch gz.2.2 c9 (fun q hq => by
       have h1 := HW4.out.2.2.2.2.2 q hq
       have h2 := (World.ownsRow.lt gz.2.2 q hq).1
       simp
       omega)
     ·exact (HPo.out.fz.ch c9 (fun q hq => by have := (World.ownsRow.lt HPo.out.fz q hq).1; simp; omega)).low hws
    have hik' : (i : Int) < k := by omega
    clear hph hcv
    go_wp2_with fail
    go_loopw [17] (fun jx wr => ∃ (j : Nat) (cv : Value), jx = .int .i64 j ∧ j ≤ (V i).n ∧ Ph W4 wr IB t cv (.slice dao dn dcp) (.slice (some ⟨FB, 0, none⟩) k fc) (.slice (some ⟨LB, 0, none⟩) k lc) V S k SL ∧ OwnL wr W4.heap.size cv (Lk.codeA t V S i ++ Lk.codeP t V S i j)) (fun jx _ => (V i).n - (intOf jx).toNat)
    case atStart => exact ⟨0, _, rfl, Nat.zero_le _, HPo.out, by rw [show Lk.codeP t V S i 0 = [] from rfl, List.append_nil]; exact HCo.out⟩
    case round =>
     obtain ⟨j, cv2, rfl, hj, hph, hcv⟩ := hrel
     obtain ⟨ao, cp, hcv2, _⟩ := hcv.toB.shape
     obtain ⟨L, hLL⟩ : ∃ L, L = Lk.codeA t V S i ++ Lk.codeP t V S i j := ⟨_, rfl⟩
     rw [← hLL] at hcv hcv2
     subst hcv2
     have HPr : Hid (Ph W4 wr IB t (.slice ao L.length cp) (.slice dao dn dcp) (.slice (some ⟨FB, 0, none⟩) k fc) (.slice (some ⟨LB, 0, none⟩) k lc) V S k SL) := hph
     have HOr : Hid (OwnL wr W4.heap.size (.slice ao L.length cp) L) := hcv
     have gz := (HRz.out wr hph.ch).2.1
     have hsz := hph.ch.size
     have hpc := HPc.out i hik wr gz
     have c0 := hpc.c0
     have c1 := hpc.c1
     by_cases hjn : j < (V i).n
     case neg =>
      obtain rfl : j = (V i).n := by omega
      have HLL : Hid (L = Lk.codeA t V S (i + 1)) := hLL
      clear hpc hph hcv gz hLL
      generalize (V i).n = n at *
      go_wp2_with fail
      go_roundw
      case rel => exact ⟨i + 1, _, by go_num, by omega, HPr.out, by rw [← HLL.out]; exact HOr.out⟩
      case measure => simp [intOf]; omega
     have hjn' : (j : Int) < (V i).n := by omega
     have HJn : Hid (j < (V i).n) := hjn
     have hnb := HNn.out i hik
     have HLd2 := HLd.out
     have hfn := HLd2.fin hik hjn
     have hlA := HLd2.lenA (k := i) (by omega)
     have hlP := HLd2.lenP hik (i := j) (by omega)
     have hpi := HLd2.pos_in hik (i := j) (by omega)
     have hpj := HLd2.pos_in hik (i := j + 1) (by omega)
     have hmy := ((Hok.out i hik).may hjn)
     rw [← Hst.out] at hfn hlA hlP hpi hpj
     have hLl : L.length ≤ 2000000 := by rw [hLL, List.length_append]; omega
     obtain ⟨E, hE⟩ : ∃ E, E = Ru.encT t (Lk.fin t V S i j) := ⟨_, rfl⟩
     have hEl : E.length ≤ 1000 := by have := (Ru.encT_len t (Lk.fin t V S i j)).2; rw [hE]; omega
     have HLE : Hid (Lk.codeA t V S i ++ Lk.codeP t V S i (j + 1) = L ++ E) := by show _ = _; rw [hLL, hE, Lk.codeP, List.append_assoc]
     obtain ⟨ib, io, hia, _, hi9, hir⟩ := hpc.ins.at hjn
     rw [hia] at c0
     have HMk : Hid (∀ q, q < (V i).m → ∃ mb mo, (A i).ma = some ⟨mb, mo, none⟩ ∧ wr.cell? ⟨mb, mo + q, none⟩ = some (.int .i64 ((V i).M q))) := fun q hq => by
      obtain ⟨mb, mo, e, _, hc⟩ := hpc.mks.at hq
      exact ⟨mb, mo, e, hc⟩
     obtain ⟨T, tc, l0, HTc⟩ := hph.cellL hik
     have m4 := hph.cellI.2.1
     have HFc := fun q (hq : q < k) => hph.cellF hq
     have HMb : Hid (∀ q, q < (V i).m → 0 ≤ (V i).M q ∧ (V i).M q ≤ (V i).n) := (Hok.out i hik).marks
     have HEf : Hid (E = Ru.encT t (Lk.fin t V S i j)) := hE
     clear hpc hph hcv gz hLL hia hE HLd2 hfn hlA hlP
     obtain ⟨i0, i1, i2, i3, i4, i5, i6, i7, i8⟩ := hi9
     obtain ⟨v, hv⟩ : ∃ v, v = (V i).I j := ⟨_, rfl⟩
     rw [← hv] at i0 i1 i2 i3 i4 i5 i6 i7 i8 hmy
     obtain ⟨n, hnn⟩ : ∃ n, n = (V i).n := ⟨_, rfl⟩
     obtain ⟨m, hmm⟩ : ∃ m, m = (V i).m := ⟨_, rfl⟩
     rw [← hnn] at c0 l0 hjn' HMb hnb
     rw [← hmm] at c1 hmy HMk HMb
     generalize (A i).mc = mc at *
     generalize (A i).ic = ic at *
     obtain ⟨Wx, hWx⟩ : ∃ Wx, Wx = wr.alloc (.cells #[.int .i64 v.op, .int .i64 v.a, .int .i64 v.b, .int .i64 v.c, .int .i64 v.k, .int .i64 v.sub, .int .i64 v.scale, .int .i64 v.imm, .int .i64 v.label] 50) := ⟨_, rfl⟩
     obtain ⟨XB, hXB⟩ : ∃ XB, XB = wr.heap.size := ⟨_, rfl⟩
     have IA : InstAt Wx XB v := by rw [hWx, hXB]; exact InstAt.new wr v
     have gx : wr.grownBy Wx none := by rw [hWx]; exact gal
     have HWx : Hid (Wx = wr.alloc (.cells #[.int .i64 v.op, .int .i64 v.a, .int .i64 v.b, .int .i64 v.c, .int .i64 v.k, .int .i64 v.sub, .int .i64 v.scale, .int .i64 v.imm, .int .i64 v.label] 50) ∧ XB = wr.heap.size ∧ wr.grownBy Wx none) := ⟨hWx, hXB, gx⟩
     have IAx : Hid (InstAt Wx XB v) := IA
     have HJm : Hid (∀ W, Calls Tryz.prog 30 #[.int .i64 v.op] W fun e w' => e = .returned (.bool (Lk.jmpB v.op)) ∧ w' = W) := fun W => rjumps_any v.op W
     have HV : Hid (v = (V i).I j ∧ n = (V i).n ∧ m = (V i).m) := ⟨hv, hnn, hmm⟩
     clear hWx hXB IA gx hv hnn hmm
     cases hj2 : Lk.jmpB v.op
     ·rw [hj2] at HJm
      by_cases hc : v.op = 23
      ·have hcb : (v.op == 23) = true := by simpa using hc
       obtain ⟨him, hl0, hl1⟩ := Lk.lab_call hmy.1 hc
       obtain ⟨lb, hlb⟩ : ∃ lb : Nat, v.label = lb := ⟨v.label.toNat, by omega⟩
       rw [hlb] at hl0 hl1
       have hlk : lb < k := by omega
       have hlk' : (lb : Int) < k := by omega
       have gx := HWx.out.2.2
       have t0 := gx.cell (HFc lb hlk) (by simp)
       have t1 := gx.cell (HFc i hik) (by simp)
       have t2 := gx.cell (HTc (j + 1) (by omega)) (by simp)
       have l0 := gx.cell l0 (by simp)
       have m4 := gx.cell m4 (by simp)
       have x8 : Wx.cell? ⟨XB, 8, none⟩ = some (.int .i64 lb) := by rw [← hlb]; exact IAx.out.c8
       have hq0 := HLd.out.pos_in hlk (Nat.zero_le _)
       rw [← Hst.out] at hq0
       have hq1 : Lk.pos (S lb) 0 = 0 := rfl
       have HEu0 : E = Ru.encT t (Lk.lead v (Lk.pos (ends V S) lb - Lk.pos (ends V S) i - Lk.pos (S i) (j + 1))) := by
        rw [HEf.out]
        rw [HV.out.1] at hj2 hc hlb ⊢
        unfold Lk.fin
        rw [if_neg (by rw [hj2]; decide), if_pos hc, hlb, Int.toNat_natCast, Int.sub_sub]
       obtain ⟨x, hx9⟩ : ∃ x, x = Lk.pos (ends V S) lb := ⟨_, rfl⟩
       obtain ⟨y, hy9⟩ : ∃ y, y = Lk.pos (ends V S) i := ⟨_, rfl⟩
       obtain ⟨z, hz9⟩ : ∃ z, z = Lk.pos (S i) (j + 1) := ⟨_, rfl⟩
       rw [← hx9, ← hy9, ← hz9] at HEu0
       rw [← hx9] at t0 hq0
       rw [← hy9] at t1 hpj
       rw [← hz9] at t2 hpj
       have HEu : Hid (E = Ru.encT t (Lk.lead v (x - y - z))) := HEu0
       have hwr : IntKind.i64.wrap (x - y) = x - y := by rw [IntKind.wrap_i64]; omega
       have hwz : IntKind.i64.wrap (x - y - z) = x - y - z := by rw [IntKind.wrap_i64]; omega
       have hwj : IntKind.i64.wrap ((j : Int) + 1) = (j : Int) + 1 := by rw [IntKind.wrap_i64]; have := HNn.out i hik; rw [← HV.out.2.1] at this; omega
       have hj1 : (j : Int) + 1 < (n : Int) + 1 := by omega
       have hj2' : ¬ (j : Int) + 1 < 0 := by omega
       have hXw := HWx.out.2.1
       clear hmy hc hj2 HTc HFc HEu0 hx9 hy9 hz9 him hlb gx hq1
       have hj2 := hj2'
       clear hj2'
       have HXw : Hid (XB = wr.heap.size) := hXw
       clear hXw
       go_wp2_with (go_at_call 30; refine (HJm.out _).mono ?_; rintro e w9 ⟨rfl, hw9⟩; rw [hw9]; clear hw9 w9)
       rw [← HWx.out.1, ← HWx.out.2.1]
       refine region_src 22 (psiL [eqV (.pointer (some ⟨IB, 4, none⟩)), eqV (.slice (some ⟨FB, 0, none⟩) k fc), eqV (.pointer (some ⟨XB, 8, none⟩)), eqV (.int .i64 (lb : Int)), eqV (.pointer (some ⟨FB, lb, none⟩)), eqV (.int .i64 x), eqV (.pointer (some ⟨IB, 4, none⟩)), eqV (.slice (some ⟨FB, 0, none⟩) k fc), eqV (.int .i64 (i : Int)), eqV (.pointer (some ⟨FB, i, none⟩)), eqV (.int .i64 y), eqV (.int .i64 (x - y)), eqV (.slice (some ⟨LB, 0, none⟩) k lc), eqV (.int .i64 (i : Int)), eqV (.pointer (some ⟨LB, i, none⟩)), eqV (.slice (some ⟨T, 0, none⟩) (n + 1) tc), eqV (.int .i64 (j : Int)), eqV (.int .i64 ((j : Int) + 1)), eqV (.pointer (some ⟨T, j + 1, none⟩)), eqV (.int .i64 z), eqV (.int .i64 (x - y - z)), eqV (.pointer (some ⟨XB, 7, none⟩))]) (by kernel_rfl) (by kernel_rfl) (by kernel_rfl) (by kernel_rfl) (psiL_hst (by repeat (first | exact stab_nil | refine stab_cons ?_ ?_ | exact stab_eq _))) ?_ ?_
       ·simp only [List.take_succ_cons, List.take_zero]
        refine ⟨?_, ?_, ?_, ?_, ?_, ?_, ?_, ?_, ?_, ?_, ?_, ?_, ?_, ?_, ?_, ?_, ?_, ?_, ?_, ?_, ?_, ?_, trivial⟩
        ·intro VV W0 AA g hV hs hz
         have e010 := hz 10 (.pointer (some ⟨IB, 0, none⟩)) (by kernel_rfl) rfl
         refine ov (v := .pointer (some ⟨IB, 4, none⟩)) ?_ rfl
         simp [go_sem, e010]
        ·intro VV W0 AA g hV hs hz
         have gD : Wx.grownBy W0 none := gdd g
         have q0 := psiL_eq (hV 0 (by kernel_rfl)) rfl
         have e0 := hs 118 0 (by kernel_rfl) (by kernel_rfl)
         have x0 := gD.cell m4 (by simp)
         refine ov (v := .slice (some ⟨FB, 0, none⟩) k fc) ?_ rfl
         simp [go_sem, q0, e0, x0]
        ·intro VV W0 AA g hV hs hz
         have e018 := hz 18 (.pointer (some ⟨XB, 0, none⟩)) (by kernel_rfl) rfl
         refine ov (v := .pointer (some ⟨XB, 8, none⟩)) ?_ rfl
         simp [go_sem, e018]
        ·intro VV W0 AA g hV hs hz
         have gD : Wx.grownBy W0 none := gdd g
         have q2 := psiL_eq (hV 2 (by kernel_rfl)) rfl
         have e2 := hs 120 2 (by kernel_rfl) (by kernel_rfl)
         have x0 := gD.cell x8 (by simp)
         refine ov (v := .int .i64 (lb : Int)) ?_ rfl
         simp [go_sem, q2, e2, x0]
        ·intro VV W0 AA g hV hs hz
         have q1 := psiL_eq (hV 1 (by kernel_rfl)) rfl
         have e1 := hs 119 1 (by kernel_rfl) (by kernel_rfl)
         have q3 := psiL_eq (hV 3 (by kernel_rfl)) rfl
         have e3 := hs 121 3 (by kernel_rfl) (by kernel_rfl)
         refine ov (v := .pointer (some ⟨FB, lb, none⟩)) ?_ rfl
         simp [go_sem, q1, e1, q3, e3, hlk']
        ·intro VV W0 AA g hV hs hz
         have gD : Wx.grownBy W0 none := gdd g
         have q4 := psiL_eq (hV 4 (by kernel_rfl)) rfl
         have e4 := hs 122 4 (by kernel_rfl) (by kernel_rfl)
         have x0 := gD.cell t0 (by simp)
         refine ov (v := .int .i64 x) ?_ rfl
         simp [go_sem, q4, e4, x0]
        ·intro VV W0 AA g hV hs hz
         have e010 := hz 10 (.pointer (some ⟨IB, 0, none⟩)) (by kernel_rfl) rfl
         refine ov (v := .pointer (some ⟨IB, 4, none⟩)) ?_ rfl
         simp [go_sem, e010]
        ·intro VV W0 AA g hV hs hz
         have gD : Wx.grownBy W0 none := gdd g
         have q6 := psiL_eq (hV 6 (by kernel_rfl)) rfl
         have e6 := hs 124 6 (by kernel_rfl) (by kernel_rfl)
         have x0 := gD.cell m4 (by simp)
         refine ov (v := .slice (some ⟨FB, 0, none⟩) k fc) ?_ rfl
         simp [go_sem, q6, e6, x0]
        ·intro VV W0 AA g hV hs hz
         have e016 := hz 16 (.int .i64 (i : Int)) (by kernel_rfl) rfl
         refine ov (v := .int .i64 (i : Int)) ?_ rfl
         simp [go_sem, e016]
        ·intro VV W0 AA g hV hs hz
         have q7 := psiL_eq (hV 7 (by kernel_rfl)) rfl
         have e7 := hs 125 7 (by kernel_rfl) (by kernel_rfl)
         have q8 := psiL_eq (hV 8 (by kernel_rfl)) rfl
         have e8 := hs 126 8 (by kernel_rfl) (by kernel_rfl)
         refine ov (v := .pointer (some ⟨FB, i, none⟩)) ?_ rfl
         simp [go_sem, q7, e7, q8, e8, hik']
        ·intro VV W0 AA g hV hs hz
         have gD : Wx.grownBy W0 none := gdd g
         have q9 := psiL_eq (hV 9 (by kernel_rfl)) rfl
         have e9 := hs 127 9 (by kernel_rfl) (by kernel_rfl)
         have x0 := gD.cell t1 (by simp)
         refine ov (v := .int .i64 y) ?_ rfl
         simp [go_sem, q9, e9, x0]
        ·intro VV W0 AA g hV hs hz
         have q5 := psiL_eq (hV 5 (by kernel_rfl)) rfl
         have e5 := hs 123 5 (by kernel_rfl) (by kernel_rfl)
         have q10 := psiL_eq (hV 10 (by kernel_rfl)) rfl
         have e10 := hs 128 10 (by kernel_rfl) (by kernel_rfl)
         refine ov (v := .int .i64 (x - y)) ?_ rfl
         simp [go_sem, q5, e5, q10, e10, hwr]
        ·intro VV W0 AA g hV hs hz
         have e012 := hz 12 (.slice (some ⟨LB, 0, none⟩) k lc) (by kernel_rfl) rfl
         refine ov (v := .slice (some ⟨LB, 0, none⟩) k lc) ?_ rfl
         simp [go_sem, e012]
        ·intro VV W0 AA g hV hs hz
         have e016 := hz 16 (.int .i64 (i : Int)) (by kernel_rfl) rfl
         refine ov (v := .int .i64 (i : Int)) ?_ rfl
         simp [go_sem, e016]
        ·intro VV W0 AA g hV hs hz
         have q12 := psiL_eq (hV 12 (by kernel_rfl)) rfl
         have e12 := hs 130 12 (by kernel_rfl) (by kernel_rfl)
         have q13 := psiL_eq (hV 13 (by kernel_rfl)) rfl
         have e13 := hs 131 13 (by kernel_rfl) (by kernel_rfl)
         refine ov (v := .pointer (some ⟨LB, i, none⟩)) ?_ rfl
         simp [go_sem, q12, e12, q13, e13, hik']
        ·intro VV W0 AA g hV hs hz
         have gD : Wx.grownBy W0 none := gdd g
         have q14 := psiL_eq (hV 14 (by kernel_rfl)) rfl
         have e14 := hs 132 14 (by kernel_rfl) (by kernel_rfl)
         have x0 := gD.cell l0 (by simp)
         refine ov (v := .slice (some ⟨T, 0, none⟩) (n + 1) tc) ?_ rfl
         simp [go_sem, q14, e14, x0]
        ·intro VV W0 AA g hV hs hz
         have e017 := hz 17 (.int .i64 (j : Int)) (by kernel_rfl) rfl
         refine ov (v := .int .i64 (j : Int)) ?_ rfl
         simp [go_sem, e017]
        ·intro VV W0 AA g hV hs hz
         have q16 := psiL_eq (hV 16 (by kernel_rfl)) rfl
         have e16 := hs 134 16 (by kernel_rfl) (by kernel_rfl)
         refine ov (v := .int .i64 ((j : Int) + 1)) ?_ rfl
         simp [go_sem, q16, e16, hwj]
        ·intro VV W0 AA g hV hs hz
         have q15 := psiL_eq (hV 15 (by kernel_rfl)) rfl
         have e15 := hs 133 15 (by kernel_rfl) (by kernel_rfl)
         have q17 := psiL_eq (hV 17 (by kernel_rfl)) rfl
         have e17 := hs 135 17 (by kernel_rfl) (by kernel_rfl)
         refine ov (v := .pointer (some ⟨T, j + 1, none⟩)) ?_ rfl
         simp [go_sem, q15, e15, q17, e17, hj1, hj2]
        ·intro VV W0 AA g hV hs hz
         have gD : Wx.grownBy W0 none := gdd g
         have q18 := psiL_eq (hV 18 (by kernel_rfl)) rfl
         have e18 := hs 136 18 (by kernel_rfl) (by kernel_rfl)
         have x0 := gD.cell t2 (by simp)
         refine ov (v := .int .i64 z) ?_ rfl
         simp [go_sem, q18, e18, x0]
        ·intro VV W0 AA g hV hs hz
         have q11 := psiL_eq (hV 11 (by kernel_rfl)) rfl
         have e11 := hs 129 11 (by kernel_rfl) (by kernel_rfl)
         have q19 := psiL_eq (hV 19 (by kernel_rfl)) rfl
         have e19 := hs 137 19 (by kernel_rfl) (by kernel_rfl)
         refine ov (v := .int .i64 (x - y - z)) ?_ rfl
         simp [go_sem, q11, e11, q19, e19, hwz]
        ·intro VV W0 AA g hV hs hz
         have e018 := hz 18 (.pointer (some ⟨XB, 0, none⟩)) (by kernel_rfl) rfl
         refine ov (v := .pointer (some ⟨XB, 7, none⟩)) ?_ rfl
         simp [go_sem, e018]
       ·intro VV W0 g hV
        have gD : Wx.grownBy W0 none := gdd g
        have h0 := psiL_eq (hV 0 (by decide)) rfl
        have h1 := psiL_eq (hV 1 (by decide)) rfl
        have h2 := psiL_eq (hV 2 (by decide)) rfl
        have h3 := psiL_eq (hV 3 (by decide)) rfl
        have h4 := psiL_eq (hV 4 (by decide)) rfl
        have h5 := psiL_eq (hV 5 (by decide)) rfl
        have h6 := psiL_eq (hV 6 (by decide)) rfl
        have h7 := psiL_eq (hV 7 (by decide)) rfl
        have h8 := psiL_eq (hV 8 (by decide)) rfl
        have h9 := psiL_eq (hV 9 (by decide)) rfl
        have h10 := psiL_eq (hV 10 (by decide)) rfl
        have h11 := psiL_eq (hV 11 (by decide)) rfl
        have h12 := psiL_eq (hV 12 (by decide)) rfl
        have h13 := psiL_eq (hV 13 (by decide)) rfl
        have h14 := psiL_eq (hV 14 (by decide)) rfl
        have h15 := psiL_eq (hV 15 (by decide)) rfl
        have h16 := psiL_eq (hV 16 (by decide)) rfl
        have h17 := psiL_eq (hV 17 (by decide)) rfl
        have h18 := psiL_eq (hV 18 (by decide)) rfl
        have h19 := psiL_eq (hV 19 (by decide)) rfl
        have h20 := psiL_eq (hV 20 (by decide)) rfl
        have h21 := psiL_eq (hV 21 (by decide)) rfl
        simp [frV, dstOf, Act.put, h0, h1, h2, h3, h4, h5, h6, h7, h8, h9, h10, h11, h12, h13, h14, h15, h16, h17, h18, h19, h20, h21]
        clear h0 h1 h2 h3 h4 h5 h6 h7 h8 h9 h10 h11 h12 h13 h14 h15 h16 h17 h18 h19 h20 h21 hV g
        have GR : Hid (Wx.grownBy W0 none) := gD
        clear gD
        have x0p := (InstAt.kept IAx.out GR.out (by simp)).c0
        have x7p := (InstAt.kept IAx.out GR.out (by simp)).c7
        have f7p := (InstAt.kept IAx.out GR.out (by simp)).fz 7
        go_wp2_with fail
        obtain ⟨Wy, hWy⟩ : ∃ Wy, Wy = W0.setCell ⟨XB, 7, none⟩ (.int .i64 (x - y - z)) := ⟨_, rfl⟩
        obtain ⟨u, hu⟩ : ∃ u, u = { v with imm := x - y - z } := ⟨_, rfl⟩
        have IAy : InstAt Wy XB u := by rw [hWy, hu]; exact (InstAt.kept IAx.out GR.out (by simp)).set7 (x - y - z)
        have hgy : wr.grownBy Wy none := by rw [hWy]; exact gs (gtr HWx.out.2.2 GR.out) _ _ (by have := HWx.out.2.1; omega)
        have HBy : Hid (∀ W, Calls Tryz.prog 31 #[.int .i64 t, .agg #[.int .i64 u.op, .int .i64 u.a, .int .i64 u.b, .int .i64 u.c, .int .i64 u.k, .int .i64 u.sub, .int .i64 u.scale, .int .i64 u.imm, .int .i64 u.label]] W fun e w' => ∃ T cp, e = .returned (.slice (some ⟨T, 0, none⟩) E.length cp) ∧ OwnL w' W.heap.size (.slice (some ⟨T, 0, none⟩) E.length cp) E ∧ W.grownBy w' none) := fun W => by rw [show E = Ru.encT t (Lk.bare u) from HEu.out.trans (by rw [hu]; rfl)]; exact rbytes6_any ht u W
        have HPx : Hid (Ph W4 Wy IB t (.slice ao L.length cp) (.slice dao dn dcp) (.slice (some ⟨FB, 0, none⟩) k fc) (.slice (some ⟨LB, 0, none⟩) k lc) V S k SL) := HPr.out.grow hgy
        have HOc : Hid (OwnL Wy W4.heap.size (.slice ao L.length cp) L) := HOr.out.kept hgy (Classical.em _)
        have hs9 := hgy.size
        rw [← hWy]
        have m1 := HPx.out.cellI.1
        obtain ⟨x0, x1, x2, x3, x4, x5, x6, x7, x8, xz⟩ := IAy
        clear xz hgy hu hWy x0p x7p f7p
        refine region_src 5 (psiL [eqV (.pointer (some ⟨IB, 1, none⟩)), eqV (.slice ao L.length cp), eqV (.int .i64 t), eqV (.agg #[.int .i64 (u.op), .int .i64 (u.a), .int .i64 (u.b), .int .i64 (u.c), .int .i64 (u.k), .int .i64 (u.sub), .int .i64 (u.scale), .int .i64 (u.imm), .int .i64 (u.label)]), bytV E Wy.heap.size]) (by kernel_rfl) (by kernel_rfl) (by kernel_rfl) (by kernel_rfl) (psiL_hst (by repeat (first | exact stab_nil | refine stab_cons ?_ ?_ | exact stab_eq _ | exact stab_byt _ _))) ?_ ?_
        ·simp only [List.take_succ_cons, List.take_zero]
         refine ⟨?_, ?_, ?_, ?_, ?_, trivial⟩
         ·intro VV W0 AA g hV hs hz
          have e010 := hz 10 (.pointer (some ⟨IB, 0, none⟩)) (by kernel_rfl) rfl
          clear hV hs hz
          refine ov (v := .pointer (some ⟨IB, 1, none⟩)) ?_ rfl
          simp [go_sem, e010]
         ·intro VV W0 AA g hV hs hz
          have gD : Wy.grownBy W0 none := gdd g
          have q0 := psiL_eq (hV 0 (by kernel_rfl)) rfl
          have e0 := hs 140 0 (by kernel_rfl) (by kernel_rfl)
          have x0 := gD.cell m1 (by simp)
          clear hV hs hz
          refine ov (v := .slice ao L.length cp) ?_ rfl
          simp [go_sem, q0, e0, x0]
         ·intro VV W0 AA g hV hs hz
          have e00 := hz 0 (.int .i64 t) (by kernel_rfl) rfl
          clear hV hs hz
          refine ov (v := .int .i64 t) ?_ rfl
          simp [go_sem, e00]
         ·intro VV W0 AA g hV hs hz
          have gD : Wy.grownBy W0 none := gdd g
          have e018 := hz 18 (.pointer (some ⟨XB, 0, none⟩)) (by kernel_rfl) rfl
          have x0 := gD.cell x0 (by simp)
          have x1 := gD.cell x1 (by simp)
          have x2 := gD.cell x2 (by simp)
          have x3 := gD.cell x3 (by simp)
          have x4 := gD.cell x4 (by simp)
          have x5 := gD.cell x5 (by simp)
          have x6 := gD.cell x6 (by simp)
          have x7 := gD.cell x7 (by simp)
          have x8 := gD.cell x8 (by simp)
          clear hV hs hz
          refine ov (v := .agg #[.int .i64 (u.op), .int .i64 (u.a), .int .i64 (u.b), .int .i64 (u.c), .int .i64 (u.k), .int .i64 (u.sub), .int .i64 (u.scale), .int .i64 (u.imm), .int .i64 (u.label)]) ?_ rfl
          simp [go_sem, e018, x0, x1, x2, x3, x4, x5, x6, x7, x8]
         ·intro VV W0 AA g hV hs hz
          have q2 := psiL_eq (hV 2 (by kernel_rfl)) rfl
          have e2 := hs 142 2 (by kernel_rfl) (by kernel_rfl)
          have q3 := psiL_eq (hV 3 (by kernel_rfl)) rfl
          have e3 := hs 143 3 (by kernel_rfl) (by kernel_rfl)
          have gs0 := g.size
          clear hV hs hz
          refine outO_call (f := 31) ?_ ((HBy.out W0).mono fun e w2 ⟨T, cp, he, ho, hg⟩ => ⟨_, he, hg, T, cp, rfl, ho.low gs0⟩)
          simp [go_sem, q2, e2, q3, e3]
        ·intro VV W0 g hV
         have gD : Wy.grownBy W0 none := gdd g
         have h0 := psiL_eq (hV 0 (by decide)) rfl
         have h1 := psiL_eq (hV 1 (by decide)) rfl
         have h2 := psiL_eq (hV 2 (by decide)) rfl
         have h3 := psiL_eq (hV 3 (by decide)) rfl
         obtain ⟨T9, tcp, h4, oT⟩ := (show bytV E Wy.heap.size (VV 4) W0 from hV 4 (by decide))
         rw [h4] at oT
         simp [frV, dstOf, Act.put, h0, h1, h2, h3, h4]
         clear h0 h1 h2 h3 h4 hV g
         have GR : Hid (Wy.grownBy W0 none) := gD
         have OT : Hid (OwnL W0 Wy.heap.size (.slice (some ⟨T9, 0, none⟩) E.length tcp) E) := oT
         have hW0 := gD.size
         clear gD oT
         go_wp2_with (at_builtin; refine wp_appSw rfl _ _ rfl W4.heap.size (.slice ao L.length cp) L E T9 tcp Wy.heap.size rfl (HOc.out.kept GR.out (Classical.em _)) rfl OT.out hLl hEl (by omega) ?_; intro cv0 w9 o9 g9; obtain ⟨ao', cp', hcv', _⟩ := o9.toB.shape; subst hcv'; have H9 : Hid (OwnL w9 W4.heap.size (.slice ao' (L ++ E).length cp') (L ++ E) ∧ W0.grownBy w9 (Value.slice ao L.length cp).ownBlock) := ⟨o9, g9⟩; obtain ⟨m9, z9⟩ := HPx.out.cellI' HOc.out GR.out g9; clear o9 g9)
         go_roundw
         case rel =>
          obtain ⟨p9, q9⟩ := HPx.out.step2 HOc.out GR.out H9.out.1 H9.out.2
          rw [List.length_append] at p9 q9
          exact ⟨j + 1, _, by go_num, Nat.succ_le_of_lt HJn.out, p9, by rw [show Lk.codeA t V S i ++ Lk.codeP t V S i (j + 1) = L ++ E from HLE.out]; exact q9⟩
         case measure => have := HJn.out; simp [intOf]; omega
      ·have hcb : (v.op == 23) = false := by simpa using hc
       have hu : Lk.bare v = v := Lk.bare_label (Lk.lab_none hmy.1 hj2 hc)
       have hEv : E = Ru.encT t (Lk.bare v) := by
        rw [HEf.out, hu, HV.out.1]
        rw [HV.out.1] at hj2 hc
        unfold Lk.fin
        rw [if_neg (by rw [hj2]; decide), if_neg hc]
       have HBy : Hid (∀ W, Calls Tryz.prog 31 #[.int .i64 t, .agg #[.int .i64 v.op, .int .i64 v.a, .int .i64 v.b, .int .i64 v.c, .int .i64 v.k, .int .i64 v.sub, .int .i64 v.scale, .int .i64 v.imm, .int .i64 v.label]] W fun e w' => ∃ T cp, e = .returned (.slice (some ⟨T, 0, none⟩) E.length cp) ∧ OwnL w' W.heap.size (.slice (some ⟨T, 0, none⟩) E.length cp) E ∧ W.grownBy w' none) := fun W => by rw [hEv]; exact rbytes6_any ht v W
       clear hEv hu hmy hc hj2 HTc HFc
       go_wp2_with (go_at_call 30; refine (HJm.out _).mono ?_; rintro e w9 ⟨rfl, hw9⟩; rw [hw9]; clear hw9 w9)
       rw [← HWx.out.1, ← HWx.out.2.1]
       have HPx : Hid (Ph W4 Wx IB t (.slice ao L.length cp) (.slice dao dn dcp) (.slice (some ⟨FB, 0, none⟩) k fc) (.slice (some ⟨LB, 0, none⟩) k lc) V S k SL) := HPr.out.grow HWx.out.2.2
       have HOc : Hid (OwnL Wx W4.heap.size (.slice ao L.length cp) L) := HOr.out.kept HWx.out.2.2 (Classical.em _)
       have hs9 := HWx.out.2.2.size
       have m1 := HPx.out.cellI.1
       obtain ⟨x0, x1, x2, x3, x4, x5, x6, x7, x8, xz⟩ := IAx.out
       clear xz
       refine region_src 5 (psiL [eqV (.pointer (some ⟨IB, 1, none⟩)), eqV (.slice ao L.length cp), eqV (.int .i64 t), eqV (.agg #[.int .i64 (v.op), .int .i64 (v.a), .int .i64 (v.b), .int .i64 (v.c), .int .i64 (v.k), .int .i64 (v.sub), .int .i64 (v.scale), .int .i64 (v.imm), .int .i64 (v.label)]), bytV E Wx.heap.size]) (by kernel_rfl) (by kernel_rfl) (by kernel_rfl) (by kernel_rfl) (psiL_hst (by repeat (first | exact stab_nil | refine stab_cons ?_ ?_ | exact stab_eq _ | exact stab_byt _ _))) ?_ ?_
       ·simp only [List.take_succ_cons, List.take_zero]
        refine ⟨?_, ?_, ?_, ?_, ?_, trivial⟩
        ·intro VV W0 AA g hV hs hz
         have e010 := hz 10 (.pointer (some ⟨IB, 0, none⟩)) (by kernel_rfl) rfl
         refine ov (v := .pointer (some ⟨IB, 1, none⟩)) ?_ rfl
         simp [go_sem, e010]
        ·intro VV W0 AA g hV hs hz
         have gD : Wx.grownBy W0 none := gdd g
         have q0 := psiL_eq (hV 0 (by kernel_rfl)) rfl
         have e0 := hs 140 0 (by kernel_rfl) (by kernel_rfl)
         have x0 := gD.cell m1 (by simp)
         refine ov (v := .slice ao L.length cp) ?_ rfl
         simp [go_sem, q0, e0, x0]
        ·intro VV W0 AA g hV hs hz
         have e00 := hz 0 (.int .i64 t) (by kernel_rfl) rfl
         refine ov (v := .int .i64 t) ?_ rfl
         simp [go_sem, e00]
        ·intro VV W0 AA g hV hs hz
         have gD : Wx.grownBy W0 none := gdd g
         have e018 := hz 18 (.pointer (some ⟨XB, 0, none⟩)) (by kernel_rfl) rfl
         have x0 := gD.cell x0 (by simp)
         have x1 := gD.cell x1 (by simp)
         have x2 := gD.cell x2 (by simp)
         have x3 := gD.cell x3 (by simp)
         have x4 := gD.cell x4 (by simp)
         have x5 := gD.cell x5 (by simp)
         have x6 := gD.cell x6 (by simp)
         have x7 := gD.cell x7 (by simp)
         have x8 := gD.cell x8 (by simp)
         refine ov (v := .agg #[.int .i64 (v.op), .int .i64 (v.a), .int .i64 (v.b), .int .i64 (v.c), .int .i64 (v.k), .int .i64 (v.sub), .int .i64 (v.scale), .int .i64 (v.imm), .int .i64 (v.label)]) ?_ rfl
         simp [go_sem, e018, x0, x1, x2, x3, x4, x5, x6, x7, x8]
        ·intro VV W0 AA g hV hs hz
         have q2 := psiL_eq (hV 2 (by kernel_rfl)) rfl
         have e2 := hs 142 2 (by kernel_rfl) (by kernel_rfl)
         have q3 := psiL_eq (hV 3 (by kernel_rfl)) rfl
         have e3 := hs 143 3 (by kernel_rfl) (by kernel_rfl)
         have gs0 := g.size
         refine outO_call (f := 31) ?_ ((HBy.out W0).mono fun e w2 ⟨T, cp, he, ho, hg⟩ => ⟨_, he, hg, T, cp, rfl, ho.low gs0⟩)
         simp [go_sem, q2, e2, q3, e3]
       ·intro VV W0 g hV
        have gD : Wx.grownBy W0 none := gdd g
        have h0 := psiL_eq (hV 0 (by decide)) rfl
        have h1 := psiL_eq (hV 1 (by decide)) rfl
        have h2 := psiL_eq (hV 2 (by decide)) rfl
        have h3 := psiL_eq (hV 3 (by decide)) rfl
        obtain ⟨T9, tcp, h4, oT⟩ := (show bytV E Wx.heap.size (VV 4) W0 from hV 4 (by decide))
        rw [h4] at oT
        simp [frV, dstOf, Act.put, h0, h1, h2, h3, h4]
        clear h0 h1 h2 h3 h4 hV g
        have GR : Hid (Wx.grownBy W0 none) := gD
        have OT : Hid (OwnL W0 Wx.heap.size (.slice (some ⟨T9, 0, none⟩) E.length tcp) E) := oT
        have hW0 := gD.size
        clear gD oT
        go_wp2_with (at_builtin; refine wp_appSw rfl _ _ rfl W4.heap.size (.slice ao L.length cp) L E T9 tcp Wx.heap.size rfl (HOc.out.kept GR.out (Classical.em _)) rfl OT.out hLl hEl (by omega) ?_; intro cv0 w9 o9 g9; obtain ⟨ao', cp', hcv', _⟩ := o9.toB.shape; subst hcv'; have H9 : Hid (OwnL w9 W4.heap.size (.slice ao' (L ++ E).length cp') (L ++ E) ∧ W0.grownBy w9 (Value.slice ao L.length cp).ownBlock) := ⟨o9, g9⟩; obtain ⟨m9, z9⟩ := HPx.out.cellI' HOc.out GR.out g9; clear o9 g9)
        go_roundw
        case rel =>
         obtain ⟨p9, q9⟩ := HPx.out.step2 HOc.out GR.out H9.out.1 H9.out.2
         rw [List.length_append] at p9 q9
         exact ⟨j + 1, _, by go_num, Nat.succ_le_of_lt HJn.out, p9, by rw [show Lk.codeA t V S i ++ Lk.codeP t V S i (j + 1) = L ++ E from HLE.out]; exact q9⟩
        case measure => have := HJn.out; simp [intOf]; omega
     ·rw [hj2] at HJm
      have hcb : (v.op == 23) = false := by have := Lk.jmpB_iff.1 hj2; simp; omega
      obtain ⟨him, hl0, hl1⟩ := Lk.lab_jmp hmy.1 hj2
      obtain ⟨lb, hlb⟩ : ∃ lb : Nat, v.label = lb := ⟨v.label.toNat, by omega⟩
      rw [hlb] at hl0 hl1
      have hlm : lb < m := by omega
      have hlm' : (lb : Int) < m := by omega
      obtain ⟨mb, mo, hma, hmc0⟩ := HMk.out lb hlm
      have hmb := HMb.out lb hlm
      obtain ⟨mk, hmk⟩ : ∃ mk : Nat, (V i).M lb = mk := ⟨((V i).M lb).toNat, by omega⟩
      rw [hmk] at hmc0 hmb
      rw [hma] at c1
      have hmn : mk ≤ n := by omega
      have hmn' : (mk : Int) < (n : Int) + 1 := by omega
      have gx := HWx.out.2.2
      have hmc := gx.cell hmc0 (by simp)
      have c1 := gx.cell c1 (by simp)
      have t1 := gx.cell (HTc mk (by have := HV.out.2.1; omega)) (by simp)
      have t2 := gx.cell (HTc (j + 1) (by omega)) (by simp)
      have l0 := gx.cell l0 (by simp)
      have x8 : Wx.cell? ⟨XB, 8, none⟩ = some (.int .i64 lb) := by rw [← hlb]; exact IAx.out.c8
      have hq0 := HLd.out.pos_in hik (i := mk) (by have := HV.out.2.1; omega)
      rw [← Hst.out] at hq0
      have HEu0 : E = Ru.encT t (Lk.lead v (Lk.pos (S i) mk - Lk.pos (S i) (j + 1))) := by
       rw [HEf.out]
       rw [HV.out.1] at hj2 hlb ⊢
       unfold Lk.fin
       rw [if_pos hj2]
       congr 2
       show Lk.pos (S i) ((V i).M ((V i).I j).label.toNat).toNat - _ = _
       rw [hlb, Int.toNat_natCast, hmk, Int.toNat_natCast]
      obtain ⟨x, hx9⟩ : ∃ x, x = Lk.pos (S i) mk := ⟨_, rfl⟩
      obtain ⟨y, hy9⟩ : ∃ y, y = Lk.pos (S i) (j + 1) := ⟨_, rfl⟩
      rw [← hx9, ← hy9] at HEu0
      rw [← hx9] at t1 hq0
      rw [← hy9] at t2 hpj
      have HEu : Hid (E = Ru.encT t (Lk.lead v (x - y))) := HEu0
      have hwr : IntKind.i64.wrap (x - y) = x - y := by rw [IntKind.wrap_i64]; omega
      have hwj : IntKind.i64.wrap ((j : Int) + 1) = (j : Int) + 1 := by rw [IntKind.wrap_i64]; have := HNn.out i hik; rw [← HV.out.2.1] at this; omega
      have hj1 : (j : Int) + 1 < (n : Int) + 1 := by omega
      have hj2' : ¬ (j : Int) + 1 < 0 := by omega
      clear hmy hj2 HTc HFc HEu0 hx9 hy9 him hlb gx hmk hmc0 hma
      have hj2 := hj2'
      clear hj2'
      go_wp2_with (go_at_call 30; refine (HJm.out _).mono ?_; rintro e w9 ⟨rfl, hw9⟩; rw [hw9]; clear hw9 w9)
      rw [← HWx.out.1, ← HWx.out.2.1]
      refine region_src 25 (psiL [eqV (.slice (some ⟨LB, 0, none⟩) k lc), eqV (.int .i64 (i : Int)), eqV (.pointer (some ⟨LB, i, none⟩)), eqV (.slice (some ⟨T, 0, none⟩) (n + 1) tc), eqV (.slice (some ⟨b, off, none⟩) k c), eqV (.int .i64 (i : Int)), eqV (.pointer (some ⟨b, off + i * 3, none⟩)), eqV (.pointer (some ⟨b, off + i * 3 + 1, none⟩)), eqV (.slice (some ⟨mb, mo, none⟩) m mc), eqV (.pointer (some ⟨XB, 8, none⟩)), eqV (.int .i64 (lb : Int)), eqV (.pointer (some ⟨mb, mo + lb, none⟩)), eqV (.int .i64 (mk : Int)), eqV (.pointer (some ⟨T, mk, none⟩)), eqV (.int .i64 x), eqV (.slice (some ⟨LB, 0, none⟩) k lc), eqV (.int .i64 (i : Int)), eqV (.pointer (some ⟨LB, i, none⟩)), eqV (.slice (some ⟨T, 0, none⟩) (n + 1) tc), eqV (.int .i64 (j : Int)), eqV (.int .i64 ((j : Int) + 1)), eqV (.pointer (some ⟨T, j + 1, none⟩)), eqV (.int .i64 y), eqV (.int .i64 (x - y)), eqV (.pointer (some ⟨XB, 7, none⟩))]) (by kernel_rfl) (by kernel_rfl) (by kernel_rfl) (by kernel_rfl) (psiL_hst (by repeat (first | exact stab_nil | refine stab_cons ?_ ?_ | exact stab_eq _))) ?_ ?_
      ·simp only [List.take_succ_cons, List.take_zero]
       refine ⟨?_, ?_, ?_, ?_, ?_, ?_, ?_, ?_, ?_, ?_, ?_, ?_, ?_, ?_, ?_, ?_, ?_, ?_, ?_, ?_, ?_, ?_, ?_, ?_, ?_, trivial⟩
       ·intro VV W0 AA g hV hs hz
        have e012 := hz 12 (.slice (some ⟨LB, 0, none⟩) k lc) (by kernel_rfl) rfl
        refine ov (v := .slice (some ⟨LB, 0, none⟩) k lc) ?_ rfl
        simp [go_sem, e012]
       ·intro VV W0 AA g hV hs hz
        have e016 := hz 16 (.int .i64 (i : Int)) (by kernel_rfl) rfl
        refine ov (v := .int .i64 (i : Int)) ?_ rfl
        simp [go_sem, e016]
       ·intro VV W0 AA g hV hs hz
        have q0 := psiL_eq (hV 0 (by kernel_rfl)) rfl
        have e0 := hs 90 0 (by kernel_rfl) (by kernel_rfl)
        have q1 := psiL_eq (hV 1 (by kernel_rfl)) rfl
        have e1 := hs 91 1 (by kernel_rfl) (by kernel_rfl)
        refine ov (v := .pointer (some ⟨LB, i, none⟩)) ?_ rfl
        simp [go_sem, q0, e0, q1, e1, hik']
       ·intro VV W0 AA g hV hs hz
        have gD : Wx.grownBy W0 none := gdd g
        have q2 := psiL_eq (hV 2 (by kernel_rfl)) rfl
        have e2 := hs 92 2 (by kernel_rfl) (by kernel_rfl)
        have x0 := gD.cell l0 (by simp)
        refine ov (v := .slice (some ⟨T, 0, none⟩) (n + 1) tc) ?_ rfl
        simp [go_sem, q2, e2, x0]
       ·intro VV W0 AA g hV hs hz
        have e01 := hz 1 (.slice (some ⟨b, off, none⟩) k c) (by kernel_rfl) rfl
        refine ov (v := .slice (some ⟨b, off, none⟩) k c) ?_ rfl
        simp [go_sem, e01]
       ·intro VV W0 AA g hV hs hz
        have e016 := hz 16 (.int .i64 (i : Int)) (by kernel_rfl) rfl
        refine ov (v := .int .i64 (i : Int)) ?_ rfl
        simp [go_sem, e016]
       ·intro VV W0 AA g hV hs hz
        have q4 := psiL_eq (hV 4 (by kernel_rfl)) rfl
        have e4 := hs 94 4 (by kernel_rfl) (by kernel_rfl)
        have q5 := psiL_eq (hV 5 (by kernel_rfl)) rfl
        have e5 := hs 95 5 (by kernel_rfl) (by kernel_rfl)
        refine ov (v := .pointer (some ⟨b, off + i * 3, none⟩)) ?_ rfl
        simp [go_sem, q4, e4, q5, e5, hik']
       ·intro VV W0 AA g hV hs hz
        have q6 := psiL_eq (hV 6 (by kernel_rfl)) rfl
        have e6 := hs 96 6 (by kernel_rfl) (by kernel_rfl)
        refine ov (v := .pointer (some ⟨b, off + i * 3 + 1, none⟩)) ?_ rfl
        simp [go_sem, q6, e6]
       ·intro VV W0 AA g hV hs hz
        have gD : Wx.grownBy W0 none := gdd g
        have q7 := psiL_eq (hV 7 (by kernel_rfl)) rfl
        have e7 := hs 97 7 (by kernel_rfl) (by kernel_rfl)
        have x0 := gD.cell c1 (by simp)
        refine ov (v := .slice (some ⟨mb, mo, none⟩) m mc) ?_ rfl
        simp [go_sem, q7, e7, x0]
       ·intro VV W0 AA g hV hs hz
        have e018 := hz 18 (.pointer (some ⟨XB, 0, none⟩)) (by kernel_rfl) rfl
        refine ov (v := .pointer (some ⟨XB, 8, none⟩)) ?_ rfl
        simp [go_sem, e018]
       ·intro VV W0 AA g hV hs hz
        have gD : Wx.grownBy W0 none := gdd g
        have q9 := psiL_eq (hV 9 (by kernel_rfl)) rfl
        have e9 := hs 99 9 (by kernel_rfl) (by kernel_rfl)
        have x0 := gD.cell x8 (by simp)
        refine ov (v := .int .i64 (lb : Int)) ?_ rfl
        simp [go_sem, q9, e9, x0]
       ·intro VV W0 AA g hV hs hz
        have q8 := psiL_eq (hV 8 (by kernel_rfl)) rfl
        have e8 := hs 98 8 (by kernel_rfl) (by kernel_rfl)
        have q10 := psiL_eq (hV 10 (by kernel_rfl)) rfl
        have e10 := hs 100 10 (by kernel_rfl) (by kernel_rfl)
        refine ov (v := .pointer (some ⟨mb, mo + lb, none⟩)) ?_ rfl
        simp [go_sem, q8, e8, q10, e10, hlm']
       ·intro VV W0 AA g hV hs hz
        have gD : Wx.grownBy W0 none := gdd g
        have q11 := psiL_eq (hV 11 (by kernel_rfl)) rfl
        have e11 := hs 101 11 (by kernel_rfl) (by kernel_rfl)
        have x0 := gD.cell hmc (by simp)
        refine ov (v := .int .i64 (mk : Int)) ?_ rfl
        simp [go_sem, q11, e11, x0]
       ·intro VV W0 AA g hV hs hz
        have q3 := psiL_eq (hV 3 (by kernel_rfl)) rfl
        have e3 := hs 93 3 (by kernel_rfl) (by kernel_rfl)
        have q12 := psiL_eq (hV 12 (by kernel_rfl)) rfl
        have e12 := hs 102 12 (by kernel_rfl) (by kernel_rfl)
        refine ov (v := .pointer (some ⟨T, mk, none⟩)) ?_ rfl
        simp [go_sem, q3, e3, q12, e12, hmn']
       ·intro VV W0 AA g hV hs hz
        have gD : Wx.grownBy W0 none := gdd g
        have q13 := psiL_eq (hV 13 (by kernel_rfl)) rfl
        have e13 := hs 103 13 (by kernel_rfl) (by kernel_rfl)
        have x0 := gD.cell t1 (by simp)
        refine ov (v := .int .i64 x) ?_ rfl
        simp [go_sem, q13, e13, x0]
       ·intro VV W0 AA g hV hs hz
        have e012 := hz 12 (.slice (some ⟨LB, 0, none⟩) k lc) (by kernel_rfl) rfl
        refine ov (v := .slice (some ⟨LB, 0, none⟩) k lc) ?_ rfl
        simp [go_sem, e012]
       ·intro VV W0 AA g hV hs hz
        have e016 := hz 16 (.int .i64 (i : Int)) (by kernel_rfl) rfl
        refine ov (v := .int .i64 (i : Int)) ?_ rfl
        simp [go_sem, e016]
       ·intro VV W0 AA g hV hs hz
        have q15 := psiL_eq (hV 15 (by kernel_rfl)) rfl
        have e15 := hs 105 15 (by kernel_rfl) (by kernel_rfl)
        have q16 := psiL_eq (hV 16 (by kernel_rfl)) rfl
        have e16 := hs 106 16 (by kernel_rfl) (by kernel_rfl)
        refine ov (v := .pointer (some ⟨LB, i, none⟩)) ?_ rfl
        simp [go_sem, q15, e15, q16, e16, hik']
       ·intro VV W0 AA g hV hs hz
        have gD : Wx.grownBy W0 none := gdd g
        have q17 := psiL_eq (hV 17 (by kernel_rfl)) rfl
        have e17 := hs 107 17 (by kernel_rfl) (by kernel_rfl)
        have x0 := gD.cell l0 (by simp)
        refine ov (v := .slice (some ⟨T, 0, none⟩) (n + 1) tc) ?_ rfl
        simp [go_sem, q17, e17, x0]
       ·intro VV W0 AA g hV hs hz
        have e017 := hz 17 (.int .i64 (j : Int)) (by kernel_rfl) rfl
        refine ov (v := .int .i64 (j : Int)) ?_ rfl
        simp [go_sem, e017]
       ·intro VV W0 AA g hV hs hz
        have q19 := psiL_eq (hV 19 (by kernel_rfl)) rfl
        have e19 := hs 109 19 (by kernel_rfl) (by kernel_rfl)
        refine ov (v := .int .i64 ((j : Int) + 1)) ?_ rfl
        simp [go_sem, q19, e19, hwj]
       ·intro VV W0 AA g hV hs hz
        have q18 := psiL_eq (hV 18 (by kernel_rfl)) rfl
        have e18 := hs 108 18 (by kernel_rfl) (by kernel_rfl)
        have q20 := psiL_eq (hV 20 (by kernel_rfl)) rfl
        have e20 := hs 110 20 (by kernel_rfl) (by kernel_rfl)
        refine ov (v := .pointer (some ⟨T, j + 1, none⟩)) ?_ rfl
        simp [go_sem, q18, e18, q20, e20, hj1, hj2]
       ·intro VV W0 AA g hV hs hz
        have gD : Wx.grownBy W0 none := gdd g
        have q21 := psiL_eq (hV 21 (by kernel_rfl)) rfl
        have e21 := hs 111 21 (by kernel_rfl) (by kernel_rfl)
        have x0 := gD.cell t2 (by simp)
        refine ov (v := .int .i64 y) ?_ rfl
        simp [go_sem, q21, e21, x0]
       ·intro VV W0 AA g hV hs hz
        have q14 := psiL_eq (hV 14 (by kernel_rfl)) rfl
        have e14 := hs 104 14 (by kernel_rfl) (by kernel_rfl)
        have q22 := psiL_eq (hV 22 (by kernel_rfl)) rfl
        have e22 := hs 112 22 (by kernel_rfl) (by kernel_rfl)
        refine ov (v := .int .i64 (x - y)) ?_ rfl
        simp [go_sem, q14, e14, q22, e22, hwr]
       ·intro VV W0 AA g hV hs hz
        have e018 := hz 18 (.pointer (some ⟨XB, 0, none⟩)) (by kernel_rfl) rfl
        refine ov (v := .pointer (some ⟨XB, 7, none⟩)) ?_ rfl
        simp [go_sem, e018]
      ·intro VV W0 g hV
       have gD : Wx.grownBy W0 none := gdd g
       have h0 := psiL_eq (hV 0 (by decide)) rfl
       have h1 := psiL_eq (hV 1 (by decide)) rfl
       have h2 := psiL_eq (hV 2 (by decide)) rfl
       have h3 := psiL_eq (hV 3 (by decide)) rfl
       have h4 := psiL_eq (hV 4 (by decide)) rfl
       have h5 := psiL_eq (hV 5 (by decide)) rfl
       have h6 := psiL_eq (hV 6 (by decide)) rfl
       have h7 := psiL_eq (hV 7 (by decide)) rfl
       have h8 := psiL_eq (hV 8 (by decide)) rfl
       have h9 := psiL_eq (hV 9 (by decide)) rfl
       have h10 := psiL_eq (hV 10 (by decide)) rfl
       have h11 := psiL_eq (hV 11 (by decide)) rfl
       have h12 := psiL_eq (hV 12 (by decide)) rfl
       have h13 := psiL_eq (hV 13 (by decide)) rfl
       have h14 := psiL_eq (hV 14 (by decide)) rfl
       have h15 := psiL_eq (hV 15 (by decide)) rfl
       have h16 := psiL_eq (hV 16 (by decide)) rfl
       have h17 := psiL_eq (hV 17 (by decide)) rfl
       have h18 := psiL_eq (hV 18 (by decide)) rfl
       have h19 := psiL_eq (hV 19 (by decide)) rfl
       have h20 := psiL_eq (hV 20 (by decide)) rfl
       have h21 := psiL_eq (hV 21 (by decide)) rfl
       have h22 := psiL_eq (hV 22 (by decide)) rfl
       have h23 := psiL_eq (hV 23 (by decide)) rfl
       have h24 := psiL_eq (hV 24 (by decide)) rfl
       simp [frV, dstOf, Act.put, h0, h1, h2, h3, h4, h5, h6, h7, h8, h9, h10, h11, h12, h13, h14, h15, h16, h17, h18, h19, h20, h21, h22, h23, h24]
       clear h0 h1 h2 h3 h4 h5 h6 h7 h8 h9 h10 h11 h12 h13 h14 h15 h16 h17 h18 h19 h20 h21 h22 h23 h24 hV g
       have GR : Hid (Wx.grownBy W0 none) := gD
       clear gD
       have x0p := (InstAt.kept IAx.out GR.out (by simp)).c0
       have x7p := (InstAt.kept IAx.out GR.out (by simp)).c7
       have f7p := (InstAt.kept IAx.out GR.out (by simp)).fz 7
       go_wp2_with fail
       obtain ⟨Wy, hWy⟩ : ∃ Wy, Wy = W0.setCell ⟨XB, 7, none⟩ (.int .i64 (x - y)) := ⟨_, rfl⟩
       obtain ⟨u, hu⟩ : ∃ u, u = { v with imm := x - y } := ⟨_, rfl⟩
       have IAy : InstAt Wy XB u := by rw [hWy, hu]; exact (InstAt.kept IAx.out GR.out (by simp)).set7 (x - y)
       have hgy : wr.grownBy Wy none := by rw [hWy]; exact gs (gtr HWx.out.2.2 GR.out) _ _ (by have := HWx.out.2.1; omega)
       have HBy : Hid (∀ W, Calls Tryz.prog 31 #[.int .i64 t, .agg #[.int .i64 u.op, .int .i64 u.a, .int .i64 u.b, .int .i64 u.c, .int .i64 u.k, .int .i64 u.sub, .int .i64 u.scale, .int .i64 u.imm, .int .i64 u.label]] W fun e w' => ∃ T cp, e = .returned (.slice (some ⟨T, 0, none⟩) E.length cp) ∧ OwnL w' W.heap.size (.slice (some ⟨T, 0, none⟩) E.length cp) E ∧ W.grownBy w' none) := fun W => by rw [show E = Ru.encT t (Lk.bare u) from HEu.out.trans (by rw [hu]; rfl)]; exact rbytes6_any ht u W
       have HPx : Hid (Ph W4 Wy IB t (.slice ao L.length cp) (.slice dao dn dcp) (.slice (some ⟨FB, 0, none⟩) k fc) (.slice (some ⟨LB, 0, none⟩) k lc) V S k SL) := HPr.out.grow hgy
       have HOc : Hid (OwnL Wy W4.heap.size (.slice ao L.length cp) L) := HOr.out.kept hgy (Classical.em _)
       have hs9 := hgy.size
       rw [← hWy]
       have m1 := HPx.out.cellI.1
       obtain ⟨x0, x1, x2, x3, x4, x5, x6, x7, x8, xz⟩ := IAy
       clear xz hgy hu hWy x0p x7p f7p
       refine region_src 5 (psiL [eqV (.pointer (some ⟨IB, 1, none⟩)), eqV (.slice ao L.length cp), eqV (.int .i64 t), eqV (.agg #[.int .i64 (u.op), .int .i64 (u.a), .int .i64 (u.b), .int .i64 (u.c), .int .i64 (u.k), .int .i64 (u.sub), .int .i64 (u.scale), .int .i64 (u.imm), .int .i64 (u.label)]), bytV E Wy.heap.size]) (by kernel_rfl) (by kernel_rfl) (by kernel_rfl) (by kernel_rfl) (psiL_hst (by repeat (first | exact stab_nil | refine stab_cons ?_ ?_ | exact stab_eq _ | exact stab_byt _ _))) ?_ ?_
       ·simp only [List.take_succ_cons, List.take_zero]
        refine ⟨?_, ?_, ?_, ?_, ?_, trivial⟩
        ·intro VV W0 AA g hV hs hz
         have e010 := hz 10 (.pointer (some ⟨IB, 0, none⟩)) (by kernel_rfl) rfl
         clear hV hs hz
         refine ov (v := .pointer (some ⟨IB, 1, none⟩)) ?_ rfl
         simp [go_sem, e010]
        ·intro VV W0 AA g hV hs hz
         have gD : Wy.grownBy W0 none := gdd g
         have q0 := psiL_eq (hV 0 (by kernel_rfl)) rfl
         have e0 := hs 140 0 (by kernel_rfl) (by kernel_rfl)
         have x0 := gD.cell m1 (by simp)
         clear hV hs hz
         refine ov (v := .slice ao L.length cp) ?_ rfl
         simp [go_sem, q0, e0, x0]
        ·intro VV W0 AA g hV hs hz
         have e00 := hz 0 (.int .i64 t) (by kernel_rfl) rfl
         clear hV hs hz
         refine ov (v := .int .i64 t) ?_ rfl
         simp [go_sem, e00]
        ·intro VV W0 AA g hV hs hz
         have gD : Wy.grownBy W0 none := gdd g
         have e018 := hz 18 (.pointer (some ⟨XB, 0, none⟩)) (by kernel_rfl) rfl
         have x0 := gD.cell x0 (by simp)
         have x1 := gD.cell x1 (by simp)
         have x2 := gD.cell x2 (by simp)
         have x3 := gD.cell x3 (by simp)
         have x4 := gD.cell x4 (by simp)
         have x5 := gD.cell x5 (by simp)
         have x6 := gD.cell x6 (by simp)
         have x7 := gD.cell x7 (by simp)
         have x8 := gD.cell x8 (by simp)
         clear hV hs hz
         refine ov (v := .agg #[.int .i64 (u.op), .int .i64 (u.a), .int .i64 (u.b), .int .i64 (u.c), .int .i64 (u.k), .int .i64 (u.sub), .int .i64 (u.scale), .int .i64 (u.imm), .int .i64 (u.label)]) ?_ rfl
         simp [go_sem, e018, x0, x1, x2, x3, x4, x5, x6, x7, x8]
        ·intro VV W0 AA g hV hs hz
         have q2 := psiL_eq (hV 2 (by kernel_rfl)) rfl
         have e2 := hs 142 2 (by kernel_rfl) (by kernel_rfl)
         have q3 := psiL_eq (hV 3 (by kernel_rfl)) rfl
         have e3 := hs 143 3 (by kernel_rfl) (by kernel_rfl)
         have gs0 := g.size
         clear hV hs hz
         refine outO_call (f := 31) ?_ ((HBy.out W0).mono fun e w2 ⟨T, cp, he, ho, hg⟩ => ⟨_, he, hg, T, cp, rfl, ho.low gs0⟩)
         simp [go_sem, q2, e2, q3, e3]
       ·intro VV W0 g hV
        have gD : Wy.grownBy W0 none := gdd g
        have h0 := psiL_eq (hV 0 (by decide)) rfl
        have h1 := psiL_eq (hV 1 (by decide)) rfl
        have h2 := psiL_eq (hV 2 (by decide)) rfl
        have h3 := psiL_eq (hV 3 (by decide)) rfl
        obtain ⟨T9, tcp, h4, oT⟩ := (show bytV E Wy.heap.size (VV 4) W0 from hV 4 (by decide))
        rw [h4] at oT
        simp [frV, dstOf, Act.put, h0, h1, h2, h3, h4]
        clear h0 h1 h2 h3 h4 hV g
        have GR : Hid (Wy.grownBy W0 none) := gD
        have OT : Hid (OwnL W0 Wy.heap.size (.slice (some ⟨T9, 0, none⟩) E.length tcp) E) := oT
        have hW0 := gD.size
        clear gD oT
        go_wp2_with (at_builtin; refine wp_appSw rfl _ _ rfl W4.heap.size (.slice ao L.length cp) L E T9 tcp Wy.heap.size rfl (HOc.out.kept GR.out (Classical.em _)) rfl OT.out hLl hEl (by omega) ?_; intro cv0 w9 o9 g9; obtain ⟨ao', cp', hcv', _⟩ := o9.toB.shape; subst hcv'; have H9 : Hid (OwnL w9 W4.heap.size (.slice ao' (L ++ E).length cp') (L ++ E) ∧ W0.grownBy w9 (Value.slice ao L.length cp).ownBlock) := ⟨o9, g9⟩; obtain ⟨m9, z9⟩ := HPx.out.cellI' HOc.out GR.out g9; clear o9 g9)
        go_roundw
        case rel =>
         obtain ⟨p9, q9⟩ := HPx.out.step2 HOc.out GR.out H9.out.1 H9.out.2
         rw [List.length_append] at p9 q9
         exact ⟨j + 1, _, by go_num, Nat.succ_le_of_lt HJn.out, p9, by rw [show Lk.codeA t V S i ++ Lk.codeP t V S i (j + 1) = L ++ E from HLE.out]; exact q9⟩
        case measure => have := HJn.out; simp [intOf]; omega
end Go.Proofs.YtkiockffejlnhaaGreatDoor
