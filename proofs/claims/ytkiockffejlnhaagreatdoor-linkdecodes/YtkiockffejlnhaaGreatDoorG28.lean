/- Contracts and plain facts that the walks share, text by text: LdCtx, LdApp, LdMay. -/
import Derived.Test.YtkiockffejlnhaaGreatDoorG24
import Derived.Test.YtkiockffejlnhaaGreatDoorG26
import Derived.Test.YtkiockffejlnhaaGreatDoorLdLeads
import Derived.Test.YtkiockffejlnhaaGreatDoorG23
import Derived.Test.YtkiockffejlnhaaGreatDoorLkRa
/- What next and leads tell of a linked image. -/
namespace Go.Proofs.YtkiockffejlnhaaGreatDoor
open Go.RowKit
set_option linter.unusedVariables false
namespace Lk
theorem enc1_at (v : InV) {i : Nat} (h : i < 8) : (Ru.encT 1 v).getD i 0 = Rc.enc v i := by
  unfold Ru.encT
  rw [if_pos rfl]
  simp [List.getD_eq_getElem?_getD, h]
theorem enc1_len (v : InV) : (Ru.encT 1 v).length = 8 := by unfold Ru.encT; simp
theorem enc2_eq (v : InV) : Ru.encT 2 v = Cc.enc v := by unfold Ru.encT; simp
def plc (t : Int) (V : Nat → PcV) (Ls : Nat → Nat → Bool) (k i : Nat) : Int := pos (ends V (SS t V Ls)) k + pos (SS t V Ls k) i
theorem plc_zero (t : Int) (V : Nat → PcV) (Ls : Nat → Nat → Bool) (k : Nat) : plc t V Ls k 0 = pos (ends V (SS t V Ls)) k := by unfold plc; show _ + (0 : Int) = _; omega
theorem plc_succ (t : Int) (V : Nat → PcV) (Ls : Nat → Nat → Bool) (k i : Nat) : plc t V Ls k (i + 1) = plc t V Ls k i + SS t V Ls k i := by unfold plc; rw [pos_succ]; omega
theorem plc_end (t : Int) (V : Nat → PcV) (Ls : Nat → Nat → Bool) (k : Nat) : plc t V Ls k (V k).n = pos (ends V (SS t V Ls)) (k + 1) := by unfold plc; rw [pos_succ]; rfl
theorem Lkd.plc_in {t : Int} {K : Nat} {V : Nat → PcV} {Ls : Nat → Nat → Bool} (h : Lkd t K V Ls) {k : Nat} (hk : k < K) {i : Nat} (hi : i ≤ (V k).n) : 0 ≤ plc t V Ls k i ∧ plc t V Ls k i ≤ 1048576 := by
  have := h.pos_in hk hi
  unfold plc
  omega
end Lk
set_option maxRecDepth 100000 in
theorem next_all {v : AkV} {n : Nat} {Ls : Nat → Nat → Bool} {cv dv : Value} {TF base : Nat} {w : World} (h : ImgY v n Ls cv dv TF base w) {k i : Nat} (hk : k < v.K) (hi : i < (v.V k).n) {fv : Value} {en : Int} :
    Calls Tryz.prog 17 #[.agg #[.int .i64 v.t, cv, dv, .int .i64 en, fv], .int .i64 (Lk.plc v.t v.V Ls k i)] w fun e w' => e = .returned (.tuple #[.agg #[.int .i64 (Lk.fin v.t v.V (Lk.SS v.t v.V Ls) k i).op, .int .i64 (Lk.fin v.t v.V (Lk.SS v.t v.V Ls) k i).a, .int .i64 (Lk.fin v.t v.V (Lk.SS v.t v.V Ls) k i).b, .int .i64 (Lk.fin v.t v.V (Lk.SS v.t v.V Ls) k i).c, .int .i64 (Lk.fin v.t v.V (Lk.SS v.t v.V Ls) k i).k, .int .i64 (Lk.fin v.t v.V (Lk.SS v.t v.V Ls) k i).sub, .int .i64 (Lk.fin v.t v.V (Lk.SS v.t v.V Ls) k i).scale, .int .i64 (Lk.fin v.t v.V (Lk.SS v.t v.V Ls) k i).imm, .int .i64 (Lk.fin v.t v.V (Lk.SS v.t v.V Ls) k i).label], .int .i64 (Lk.SS v.t v.V Ls k i), .bool true]) ∧ w.grownBy w' none := by
  obtain ⟨t, a, K, c, V, A, da, dn, dc, dg, en0⟩ := v
  obtain ⟨_, _, ht, _, _, hl, ho, _, _⟩ := h
  simp only at *
  obtain ⟨p, hp, hle, hb⟩ := hl.at hk hi
  obtain ⟨hm, hr, hln⟩ := hl.fin hk hi
  have hL := hl.lenA (Nat.le_refl K)
  have hmx : Lk.pos (ends V (Lk.SS t V Ls)) K ≤ 1048576 := hl.max
  have h1 := (Ru.encT_len t (Lk.fin t V (Lk.SS t V Ls) k i)).1
  have hfit := Cc.byt_fit (Lk.byt_codeA t V (Lk.SS t V Ls) K)
  have hpl : Lk.plc t V Ls k i = p := hp
  rw [hpl]
  obtain ⟨ao, cap, rfl, _, hc, hcm, hbs⟩ := ho.toB.shape
  rcases hbs with h0 | ⟨T, off, e, hcell⟩
  · omega
  · subst e
    obtain rfl : off = 0 := by
      rcases ho.2 with ⟨e, _⟩ | ⟨g', c', cur, e, _⟩
      · cases e
      · injection e with e _ _
        injection e with e
        injection e
    have hcell' : ∀ i, i < (Lk.codeA t V (Lk.SS t V Ls) K).length → w.cell? ⟨T, i, none⟩ = some (.int .u8 ((Lk.codeA t V (Lk.SS t V Ls) K).getD i 0)) := fun i hi => by have := hcell i hi; rwa [Nat.zero_add] at this
    rcases ht with rfl | rfl
    · have hm' : Rc.mayB (Lk.fin 1 V (Lk.SS 1 V Ls) k i) = true := by unfold Ru.mayT at hm; rwa [if_pos rfl] at hm
      rw [← hln, Lk.enc1_len]
      rw [Lk.enc1_len] at hle hb
      exact next_r hcell' hfit hc hcm (by omega) hm' hle (fun j hj => by rw [← Lk.enc1_at _ hj]; exact hb j hj)
    · have hm' : Cc.mayB (Lk.fin 2 V (Lk.SS 2 V Ls) k i) = true := by unfold Ru.mayT at hm; rwa [if_neg (by decide)] at hm
      rw [← hln, Lk.enc2_eq]
      rw [Lk.enc2_eq] at hle hb
      exact next_c hcell' hfit hc hcm (by omega) hm' hr hle hb
set_option maxRecDepth 100000 in
theorem leads_all {v : AkV} {n : Nat} {Ls : Nat → Nat → Bool} {cv dv : Value} {TF base : Nat} {w : World} (h : ImgY v n Ls cv dv TF base w) {k j : Nat} (hk : k < v.K) (hj : j < (v.V k).n) {en : Int} {A : PcA} (hins : InsIn w.heap.size w A.ia (v.V k).n A.ic (v.V k).I) (hmk : NumIn w.heap.size w A.ma (v.V k).m A.mc (v.V k).M) {pa : Option Addr} {pc : Nat} (hpl : NumIn w.heap.size w pa ((v.V k).n + 1) pc (Lk.plc v.t v.V Ls k)) :
    Calls Tryz.prog 18 #[.agg #[.int .i64 v.t, cv, dv, .int .i64 en, .slice (some ⟨TF, 0, none⟩) v.K v.K], .agg #[.slice A.ia (v.V k).n A.ic, .slice A.ma (v.V k).m A.mc, .int .i64 A.out], .int .i64 j, .agg #[.int .i64 (Lk.fin v.t v.V (Lk.SS v.t v.V Ls) k j).op, .int .i64 (Lk.fin v.t v.V (Lk.SS v.t v.V Ls) k j).a, .int .i64 (Lk.fin v.t v.V (Lk.SS v.t v.V Ls) k j).b, .int .i64 (Lk.fin v.t v.V (Lk.SS v.t v.V Ls) k j).c, .int .i64 (Lk.fin v.t v.V (Lk.SS v.t v.V Ls) k j).k, .int .i64 (Lk.fin v.t v.V (Lk.SS v.t v.V Ls) k j).sub, .int .i64 (Lk.fin v.t v.V (Lk.SS v.t v.V Ls) k j).scale, .int .i64 (Lk.fin v.t v.V (Lk.SS v.t v.V Ls) k j).imm, .int .i64 (Lk.fin v.t v.V (Lk.SS v.t v.V Ls) k j).label], .slice pa ((v.V k).n + 1) pc] w fun e w' => e = .returned (.bool true) ∧ w.grownBy w' none := by
  obtain ⟨t, a, K, c, V, A0, da, dn, dc, dg, en0⟩ := v
  obtain ⟨_, _, ht, _, _, hl, _, hfn, _⟩ := h
  simp only at *
  have hPL : ∀ q, q ≤ (V k).n → 0 ≤ Lk.plc t V Ls k q ∧ Lk.plc t V Ls k q ≤ 1048576 := fun q hq => hl.plc_in hk hq
  obtain ⟨hlb, hmy⟩ := (hl.ok k hk).may hj
  cases hjm : Lk.jmpB ((V k).I j).op
  · by_cases h23 : ((V k).I j).op = 23
    · have e : Lk.fin t V (Lk.SS t V Ls) k j = Lk.lead ((V k).I j) (Lk.pos (ends V (Lk.SS t V Ls)) ((V k).I j).label.toNat - (Lk.pos (ends V (Lk.SS t V Ls)) k + Lk.pos (Lk.SS t V Ls k) (j + 1))) := by
        unfold Lk.fin; rw [if_neg (by rw [hjm]; decide), if_pos h23]
      rw [e]
      obtain ⟨hi0, hl0, hl1⟩ := Lk.lab_call hlb h23
      obtain ⟨L, hL⟩ : ∃ L : Nat, ((V k).I j).label = L := ⟨((V k).I j).label.toNat, by omega⟩
      have hLK : L < K := by omega
      have e2 : ((V k).I j).label.toNat = L := by omega
      rw [e2]
      have hF : 0 ≤ Lk.pos (ends V (Lk.SS t V Ls)) L ∧ Lk.pos (ends V (Lk.SS t V Ls)) L ≤ 1048576 := by
        have h2 := hl.plc_in hLK (Nat.zero_le _)
        rw [Lk.plc_zero] at h2
        exact h2
      exact leads_c (v := (V k).I j) (Nat.le_refl _) hins hmk hj hpl hPL rfl h23 hi0 hL hLK rfl (hfn.cell hLK) hF (by simp only [Lk.lead]; unfold Lk.plc; omega)
    · have e : Lk.fin t V (Lk.SS t V Ls) k j = (V k).I j := by unfold Lk.fin; rw [if_neg (by rw [hjm]; decide), if_neg h23]
      rw [e]
      exact leads_n (v := (V k).I j) (Nat.le_refl _) hins hmk hj hpl hPL rfl hjm h23
  · have e : Lk.fin t V (Lk.SS t V Ls) k j = Lk.lead ((V k).I j) (Lk.immS (V k) t (Lk.SS t V Ls k) j) := by unfold Lk.fin; rw [if_pos hjm]
    rw [e]
    obtain ⟨hi0, hl0, hl1⟩ := Lk.lab_jmp hlb hjm
    obtain ⟨L, hL⟩ : ∃ L : Nat, ((V k).I j).label = L := ⟨((V k).I j).label.toNat, by omega⟩
    have hLm : L < (V k).m := by omega
    have e2 : ((V k).I j).label.toNat = L := by omega
    have hmr := (hl.ok k hk).marks L hLm
    obtain ⟨M, hM⟩ : ∃ M : Nat, (V k).M L = M := ⟨((V k).M L).toNat, by omega⟩
    have hMn : M ≤ (V k).n := by omega
    have hX : Lk.immS (V k) t (Lk.SS t V Ls k) j = ((V k).sh t).imm (Ls k) j := rfl
    have hX2 : ((V k).sh t).imm (Ls k) j = Lk.pos (Lk.SS t V Ls k) M - Lk.pos (Lk.SS t V Ls k) (j + 1) := by
      unfold Lk.Sh.imm
      have : ((V k).sh t).tg j = M := by show ((V k).M ((V k).I j).label.toNat).toNat = M; rw [e2, hM]; rfl
      rw [this]
      rfl
    refine leads_j (v := (V k).I j) (Nat.le_refl _) hins hmk hj hpl hPL rfl hjm hi0 hL hLm hM hMn (by simp only [Lk.lead]; rw [hX, hX2]; unfold Lk.plc; omega) ht (fun h2 hd => ?_)
    rw [Lk.plc_succ] at hd
    have hsz : Lk.SS t V Ls k j = ((V k).sh t).size (Ls k) j := rfl
    have hfar := (hl.le k hk).far (hl.ok k hk).sh hj hjm
    have hsh : ((V k).sh t).s j = if t = 1 then 8 else 3 := Lk.len_short hjm hmy hi0
    simp only [Lk.lead]
    rw [hX]
    cases hfb : Lk.fitB (((V k).sh t).imm (Ls k) j)
    · exact Lk.fitB_no.1 hfb
    · exfalso
      rw [hfb] at hfar
      unfold Lk.Sh.size at hsz
      rw [hfar, Bool.not_true, Bool.and_false] at hsz
      simp only [Bool.false_eq_true, if_false] at hsz
      rw [hsh, if_neg (by omega)] at hsz
      omega
end Go.Proofs.YtkiockffejlnhaaGreatDoor

/- Numbers, instructions appended one by one, many of them. -/
namespace Go.Proofs.YtkiockffejlnhaaGreatDoor
open Go.RowKit
set_option linter.unusedVariables false
theorem wp_appZ1 {ops : Array Oper} {rest : List Oper} {o : Oper} {a : Act} {Q : Exit → Act → World → Prop} {W : World} (hgd : o.guard = none) (s x : Operand)
    (ho : o.op = .call { callee := .builtin .append, args := #[s, x], argTypes := #[30, 30] }) (base : Nat) (v : Value) (l : List Int) (X : Int) (hs : a.eval s = v) (hown : OwnZ W base v l)
    {nb : Nat} (hx : a.eval x = .slice (some ⟨nb, 0, none⟩) 1 1) (hnb : nb = W.heap.size) (hl : l.length ≤ 2000000) (hb : base ≤ W.heap.size)
    (h : ∀ v' w', OwnZ w' base v' (l ++ [X]) → W.grownBy w' v.ownBlock → wpList Tryz.prog ops Q rest (a.put o.dst v') w') : wpList Tryz.prog ops Q (o :: rest) a (W.alloc (Obj.cells #[.int .i64 X] 3)) := by
  subst hnb
  obtain ⟨i, hi, hz0, hz1, hz2⟩ := info_parts info_int
  refine wpList_append_own _ hgd s x 30 ho base 3 i _ 1 8 Tryz.underlying30 hi hz0 hz1 hz2 rfl (by decide) v l.length (l.map (Value.int .i64)) hs (World.ownsRow.alloc hown _) ⟨W.heap.size, 0, none⟩ 1 1 [.int .i64 X] hx rfl
    (by intro j y hj; rw [addr_add, Nat.zero_add, cells_new _ _ rfl]; rw [← hj]; simp) (by intro y hy; simp at hy; subst hy; rfl) (by unfold maxLen; omega) (by omega) (by simp; omega) ?_
  intro v' w2 ho2 hg2 _
  refine h v' w2 ?_ (grown_trans (grown_noneR _ (World.grownBy_alloc _ _ _)) hg2)
  unfold OwnZ
  rw [List.length_append, List.map_append]
  simpa using ho2
theorem wp_appI2 {ops : Array Oper} {rest : List Oper} {o : Oper} {a : Act} {Q : Exit → Act → World → Prop} {W : World} (hgd : o.guard = none) (s x : Operand)
    (ho : o.op = .call { callee := .builtin .append, args := #[s, x], argTypes := #[46, 46] }) (base : Nat) (v : Value) (l : List InV) (u : InV) (hs : a.eval s = v) (hown : OwnI W base v l)
    {nb : Nat} (hx : a.eval x = .slice (some ⟨nb, 0, none⟩) 1 1) (hnb : nb = W.heap.size) (hl : l.length ≤ 2000000) (hb : base ≤ W.heap.size)
    (h : ∀ v' w', OwnI w' base v' (l ++ [u]) → W.grownBy w' v.ownBlock → wpList Tryz.prog ops Q rest (a.put o.dst v') w') : wpList Tryz.prog ops Q (o :: rest) a (W.alloc (Obj.cells #[.int .i64 u.op, .int .i64 u.a, .int .i64 u.b, .int .i64 u.c, .int .i64 u.k, .int .i64 u.sub, .int .i64 u.scale, .int .i64 u.imm, .int .i64 u.label] 50)) := by
  subst hnb
  obtain ⟨i, hi, hz0, hz1, hz2⟩ := info_parts info_inst
  refine wpList_append_own _ hgd s x 46 ho base 50 i _ 9 72 Tryz.underlying46 hi hz0 hz1 hz2 rfl (by decide) v l.length (l.flatMap cells9) hs (World.ownsRow.alloc hown _) ⟨W.heap.size, 0, none⟩ 1 1 (cells9 u) hx rfl
    (by intro j y hj; rw [addr_add, Nat.zero_add, cells_new _ _ rfl]; rw [← hj]; simp [cells9]) (by intro y hy; simp [cells9] at hy; rcases hy with rfl | rfl | rfl | rfl | rfl | rfl | rfl | rfl | rfl <;> rfl) (by unfold maxLen; omega) (by omega) (by simp; omega) ?_
  intro v' w2 ho2 hg2 _
  refine h v' w2 ?_ (grown_trans (grown_noneR _ (World.grownBy_alloc _ _ _)) hg2)
  unfold OwnI
  rw [List.length_append, List.flatMap_append]
  simpa using ho2
theorem apartZI {w : World} {b1 b2 : Nat} {v1 v2 : Value} {l : List Int} {m : List InV} (h1 : OwnZ w b1 v1 l) (h2 : OwnI w b2 v2 m) : (v2.ownBlock = none ∨ v2.ownBlock ≠ v1.ownBlock) ∧ (v1.ownBlock = none ∨ v1.ownBlock ≠ v2.ownBlock) := by
  rcases h1.2 with ⟨rfl, _⟩ | ⟨g1, c1, cur1, rfl, _, e1, _⟩
  · refine ⟨?_, .inl rfl⟩
    cases hv : v2.ownBlock
    · exact .inl rfl
    · exact .inr (by simp [Value.ownBlock])
  · rcases h2.2 with ⟨rfl, _⟩ | ⟨g2, c2, cur2, rfl, _, e2, _⟩
    · exact ⟨.inl rfl, .inr (by simp [Value.ownBlock])⟩
    · have hne : g1 ≠ g2 := by
        intro e
        subst e
        rw [e1] at e2
        simp at e2
      exact ⟨.inr (by simp [Value.ownBlock]; exact fun e => hne e.symm), .inr (by simp [Value.ownBlock, hne])⟩
structure Rd (W8 wr : World) (q : Nat → Int) (g : Nat → InV) (j : Nat) (pl il : Value) : Prop where
  z : OwnZ wr W8.heap.size pl ((List.range j).map q)
  i : OwnI wr W8.heap.size il ((List.range j).map g)
  gr : W8.grownBy wr none
theorem Rd.step {W8 wr w3 w4 w5 : World} {q : Nat → Int} {g : Nat → InV} {j : Nat} {pl il v4 v5 : Value} (h : Rd W8 wr q g j pl il) (g3 : wr.grownBy w3 none) (o4 : OwnZ w4 W8.heap.size v4 ((List.range j).map q ++ [q j])) (g4 : w3.grownBy w4 pl.ownBlock) (o5 : OwnI w5 W8.heap.size v5 ((List.range j).map g ++ [g j])) (g5 : w4.grownBy w5 il.ownBlock) : Rd W8 w5 q g (j + 1) v4 v5 := by
  have i3 := h.i.grow g3
  have z3 := h.z.grow g3
  have i4 := i3.kept g4 (apartZI z3 i3).1
  refine ⟨?_, ?_, ?_⟩
  · have := o4.kept g5 (apartZI o4 i4).2
    rwa [List.range_succ, List.map_append]
  · rwa [List.range_succ, List.map_append]
  · have c := (((Ch.of (l := pl.ownBlock.toList ++ il.ownBlock.toList) (grown_trans h.gr g3)).trans ((grown_ch g4).mono (fun k _ hk => List.mem_append_left _ hk))).trans ((grown_ch g5).mono (fun k _ hk => List.mem_append_right _ hk)))
    exact c.nil (fun k hk => by
      rcases List.mem_append.1 hk with h1 | h1
      · exact h.z.base k (by simpa using h1)
      · exact h.i.base k (by simpa using h1))
theorem Rd.last {W8 wr w6 : World} {q : Nat → Int} {g : Nat → InV} {j : Nat} {pl il v6 : Value} (h : Rd W8 wr q g j pl il) (o6 : OwnZ w6 W8.heap.size v6 ((List.range j).map q ++ [q j])) (g6 : wr.grownBy w6 pl.ownBlock) : OwnZ w6 W8.heap.size v6 ((List.range (j + 1)).map q) ∧ OwnI w6 W8.heap.size il ((List.range j).map g) ∧ W8.grownBy w6 none := by
  refine ⟨by rwa [List.range_succ, List.map_append], h.i.kept g6 (apartZI h.z h.i).1, ?_⟩
  exact ((Ch.of (l := pl.ownBlock.toList) h.gr).trans (grown_ch g6)).nil (fun k hk => h.z.base k (by simpa using hk))
end Go.Proofs.YtkiockffejlnhaaGreatDoor

/- gantryref6.May, of pieces that may be linked. -/
namespace Go.Proofs.YtkiockffejlnhaaGreatDoor
open Go.RowKit
set_option linter.unusedVariables false
set_option maxRecDepth 100000 in
set_option maxHeartbeats 8000000 in
theorem may6_r {w : World} {N : Nat} {a : Option Addr} {K c : Nat} {V : Nat → Lk.PcV} {A : Nat → PcA} (h : PcsIn N w a K c V A) (h0 : 0 < K) (hK : K ≤ 33) {en : Nat} (hen : en < K) (hok : ∀ k, k < K → (V k).Ok 1 K) (hrng : ∀ k, k < K → ∀ i, i < (V k).n → InRng ((V k).I i)) :
    Calls Tryz.prog 11 #[.int .i64 1, .slice a K c, .int .i64 en] w fun e w' => e = .returned (.bool true) ∧ w.grownBy w' none := by
  have hle := h.le
  have hmx := h.max
  unfold maxLen at hmx
  have h0' : (0 : Int) < K := by omega
  have hK' : (K : Int) ≤ 33 := by omega
  have hen' : (en : Int) < K := by omega
  have HP : Hid (∀ W, w.grownBy W none → PcsIn N W a K c V A) := fun W g => h.ch (l := []) (Ch.of g) (by simp)
  have HOk : Hid (∀ k, k < K → (V k).Ok 1 K) := hok
  have HRg : Hid (∀ k, k < K → ∀ i, i < (V k).n → InRng ((V k).I i)) := hrng
  clear h hok hrng
  go_enter Tryz.func11, Tryz.ntmps11
  go_wp2_with fail
  go_loopw [7] (fun ix wr => ∃ (k : Nat), ix = .int .i64 k ∧ k ≤ K ∧ w.grownBy wr none) (fun ix _ => K - (intOf ix).toNat)
  case atStart => exact ⟨0, rfl, Nat.zero_le _, World.grownBy.refl _ _⟩
  case round =>
    obtain ⟨k, rfl, hk, hgr⟩ := hrel
    have HG0 : Hid (w.grownBy wr none) := hgr
    obtain ⟨wo, rfl⟩ : ∃ wo, wo = wr := ⟨_, rfl⟩
    by_cases hkK : k < K
    case neg =>
      obtain rfl : k = K := by omega
      clear hgr
      go_wp2
      go_ret
      exact ⟨rfl, HG0.out⟩
    have hkK' : (k : Int) < K := by omega
    obtain ⟨b, off, rfl, hb, hpa⟩ := (HP.out _ hgr).at hkK
    have HPa : Hid (∀ W, wo.grownBy W none → PcAt N W b (off + k * 3) (V k) (A k)) := fun W g => hpa.ch (l := []) (Ch.of g) (by simp) hb
    have HOv : Hid ((V k).Ok 1 K) := HOk.out k hkK
    have HRv : Hid (∀ i, i < (V k).n → InRng ((V k).I i)) := HRg.out k hkK
    have hil := hpa.ins.le
    have him := hpa.ins.max
    have hml := hpa.mks.le
    have hmm := hpa.mks.max
    unfold maxLen at him hmm
    clear hpa hgr
    generalize V k = P at *
    generalize A k = Q at *
    go_wp2_with fail
    go_loopw [8] (fun ix wr => ∃ (i : Nat), ix = .int .i64 i ∧ i ≤ P.m ∧ wo.grownBy wr none) (fun ix _ => P.m - (intOf ix).toNat)
    case atStart => exact ⟨0, rfl, Nat.zero_le _, World.grownBy.refl _ _⟩
    case round =>
      obtain ⟨i, rfl, hi, hg1⟩ := hrel
      have HGr : Hid (wo.grownBy wr none) := hg1
      have hpa := HPa.out _ hg1
      have c0 := hpa.c0
      have c1 := hpa.c1
      by_cases him2 : i < P.m
      · have him2' : (i : Int) < P.m := by omega
        obtain ⟨mb, mo, hma, hmb, hmc⟩ := hpa.mks.at him2
        have hmr := HOv.out.marks i him2
        have d1 : decide (P.M i < 0) = false := by simp; omega
        have d2 : decide ((P.n : Int) < P.M i) = false := by simp; omega
        rw [hma] at c1
        clear hpa hg1 hma
        generalize P.M i = M at *
        generalize P.n = n at *
        generalize P.m = m at *
        go_wp2_with fail
        go_quiet (fail)
        go_wp2_with fail
        go_roundw
        case rel => exact ⟨i + 1, by go_num, by omega, grown_drewN HGr.out _⟩
        case measure => simp [intOf]; omega
      · obtain rfl : i = P.m := by omega
        clear hpa hg1
        obtain ⟨w1, hw1⟩ : ∃ w1, w1 = wr := ⟨_, rfl⟩
        rw [← hw1] at c0 c1 HGr ⊢
        clear hw1
        go_wp2_with fail
        go_loopw [9] (fun ix wr => ∃ (i : Nat), ix = .int .i64 i ∧ i ≤ P.n ∧ wo.grownBy wr none) (fun ix _ => P.n - (intOf ix).toNat)
        case atStart => exact ⟨0, rfl, Nat.zero_le _, HGr.out⟩
        case round =>
          obtain ⟨i, rfl, hi, hg1⟩ := hrel
          have HGr : Hid (wo.grownBy wr none) := hg1
          have hpa := HPa.out _ hg1
          have c0 := hpa.c0
          have c1 := hpa.c1
          by_cases hin : i < P.n
          case neg =>
            obtain rfl : i = P.n := by omega
            clear hpa hg1
            go_wp2_with fail
            go_roundw
            case rel => exact ⟨k + 1, by go_num, by omega, grown_trans HG0.out HGr.out⟩
            case measure => simp [intOf]; omega
          have hin' : (i : Int) < P.n := by omega
          obtain ⟨ib, io, hia, hib, hia9, hrv⟩ := hpa.ins.at hin
          have HMi : Hid (∀ W, Calls Tryz.prog 27 #[.int .i64 1, .agg #[.int .i64 (P.I i).op, .int .i64 (P.I i).a, .int .i64 (P.I i).b, .int .i64 (P.I i).c, .int .i64 (P.I i).k, .int .i64 (P.I i).sub, .int .i64 (P.I i).scale, .int .i64 (P.I i).imm, .int .i64 (P.I i).label], .int .i64 P.m, .int .i64 K] W fun e w' => e = .returned (.bool true) ∧ W.grownBy w' none) := fun W => by
            have := rinst6_any (t := 1) (by decide) (P.I i) P.m K W hrv
            rw [HOv.out.insts i hin] at this
            exact this
          rw [hia] at c0
          clear hpa hg1 hia
          generalize P.I i = v at *
          obtain ⟨i0, i1, i2, i3, i4, i5, i6, i7, i8⟩ := hia9
          clear hrv
          generalize P.n = n at *
          generalize P.m = m at *
          generalize Q.ic = ic at *
          generalize Q.ma = ma at *
          generalize Q.mc = mc at *
          go_wp2_with fail
          refine region_src 18 (psiV [.int .i64 1, .slice (some ⟨b, off, none⟩) K c, .int .i64 (k : Int), .pointer (some ⟨b, off + k * 3, none⟩), .pointer (some ⟨b, off + k * 3, none⟩), .slice (some ⟨ib, io, none⟩) n ic, .int .i64 (i : Int), .pointer (some ⟨ib, io + i * 9, none⟩), .agg #[.int .i64 v.op, .int .i64 v.a, .int .i64 v.b, .int .i64 v.c, .int .i64 v.k, .int .i64 v.sub, .int .i64 v.scale, .int .i64 v.imm, .int .i64 v.label], .slice (some ⟨b, off, none⟩) K c, .int .i64 (k : Int), .pointer (some ⟨b, off + k * 3, none⟩), .pointer (some ⟨b, off + k * 3 + 1, none⟩), .slice ma m mc, .int .i64 (m : Int), .slice (some ⟨b, off, none⟩) K c, .int .i64 (K : Int), .bool true]) (by kernel_rfl) (by kernel_rfl) (by kernel_rfl) (by kernel_rfl) (fun i x w0 w1 hi h g => h) ?_ ?_
          · simp only [List.take_succ_cons, List.take_zero]
            refine ⟨?_, ?_, ?_, ?_, ?_, ?_, ?_, ?_, ?_, ?_, ?_, ?_, ?_, ?_, ?_, ?_, ?_, ?_, trivial⟩
            · intro VV W0 AA g hV hs hz
              have gD : wr.grownBy W0 none := grown_trans (grown_drew (World.grownBy.refl _ none)) g
              have e00 := hz 0 (.int .i64 1) (by kernel_rfl) rfl
              clear hV hs hz
              refine outO_val (v := .int .i64 1) (w' := W0) ?_ (World.grownBy.refl _ _) rfl
              simp [go_sem, e00]
            · intro VV W0 AA g hV hs hz
              have gD : wr.grownBy W0 none := grown_trans (grown_drew (World.grownBy.refl _ none)) g
              have e01 := hz 1 (.slice (some ⟨b, off, none⟩) K c) (by kernel_rfl) rfl
              clear hV hs hz
              refine outO_val (v := .slice (some ⟨b, off, none⟩) K c) (w' := W0) ?_ (World.grownBy.refl _ _) rfl
              simp [go_sem, e01]
            · intro VV W0 AA g hV hs hz
              have gD : wr.grownBy W0 none := grown_trans (grown_drew (World.grownBy.refl _ none)) g
              have e07 := hz 7 (.int .i64 (k : Int)) (by kernel_rfl) rfl
              clear hV hs hz
              refine outO_val (v := .int .i64 (k : Int)) (w' := W0) ?_ (World.grownBy.refl _ _) rfl
              simp [go_sem, e07]
            · intro VV W0 AA g hV hs hz
              have gD : wr.grownBy W0 none := grown_trans (grown_drew (World.grownBy.refl _ none)) g
              have q1 : VV 1 = .slice (some ⟨b, off, none⟩) K c := hV 1 (by kernel_rfl)
              have e1 := hs 89 1 (by kernel_rfl) (by kernel_rfl)
              have q2 : VV 2 = .int .i64 (k : Int) := hV 2 (by kernel_rfl)
              have e2 := hs 90 2 (by kernel_rfl) (by kernel_rfl)
              clear hV hs hz
              refine outO_val (v := .pointer (some ⟨b, off + k * 3, none⟩)) (w' := W0) ?_ (World.grownBy.refl _ _) rfl
              simp [go_sem, q1, e1, q2, e2, hkK']
            · intro VV W0 AA g hV hs hz
              have gD : wr.grownBy W0 none := grown_trans (grown_drew (World.grownBy.refl _ none)) g
              have q3 : VV 3 = .pointer (some ⟨b, off + k * 3, none⟩) := hV 3 (by kernel_rfl)
              have e3 := hs 91 3 (by kernel_rfl) (by kernel_rfl)
              clear hV hs hz
              refine outO_val (v := .pointer (some ⟨b, off + k * 3, none⟩)) (w' := W0) ?_ (World.grownBy.refl _ _) rfl
              simp [go_sem, q3, e3]
            · intro VV W0 AA g hV hs hz
              have gD : wr.grownBy W0 none := grown_trans (grown_drew (World.grownBy.refl _ none)) g
              have q4 : VV 4 = .pointer (some ⟨b, off + k * 3, none⟩) := hV 4 (by kernel_rfl)
              have e4 := hs 92 4 (by kernel_rfl) (by kernel_rfl)
              have x0 := gD.cell c0 (by simp)
              clear hV hs hz
              refine outO_val (v := .slice (some ⟨ib, io, none⟩) n ic) (w' := W0) ?_ (World.grownBy.refl _ _) rfl
              simp [go_sem, q4, e4, x0]
            · intro VV W0 AA g hV hs hz
              have gD : wr.grownBy W0 none := grown_trans (grown_drew (World.grownBy.refl _ none)) g
              have e09 := hz 9 (.int .i64 (i : Int)) (by kernel_rfl) rfl
              clear hV hs hz
              refine outO_val (v := .int .i64 (i : Int)) (w' := W0) ?_ (World.grownBy.refl _ _) rfl
              simp [go_sem, e09]
            · intro VV W0 AA g hV hs hz
              have gD : wr.grownBy W0 none := grown_trans (grown_drew (World.grownBy.refl _ none)) g
              have q5 : VV 5 = .slice (some ⟨ib, io, none⟩) n ic := hV 5 (by kernel_rfl)
              have e5 := hs 93 5 (by kernel_rfl) (by kernel_rfl)
              have q6 : VV 6 = .int .i64 (i : Int) := hV 6 (by kernel_rfl)
              have e6 := hs 94 6 (by kernel_rfl) (by kernel_rfl)
              clear hV hs hz
              refine outO_val (v := .pointer (some ⟨ib, io + i * 9, none⟩)) (w' := W0) ?_ (World.grownBy.refl _ _) rfl
              simp [go_sem, q5, e5, q6, e6, hin']
            · intro VV W0 AA g hV hs hz
              have gD : wr.grownBy W0 none := grown_trans (grown_drew (World.grownBy.refl _ none)) g
              have q7 : VV 7 = .pointer (some ⟨ib, io + i * 9, none⟩) := hV 7 (by kernel_rfl)
              have e7 := hs 95 7 (by kernel_rfl) (by kernel_rfl)
              have x0 := gD.cell i0 (by simp)
              have x1 := gD.cell i1 (by simp)
              have x2 := gD.cell i2 (by simp)
              have x3 := gD.cell i3 (by simp)
              have x4 := gD.cell i4 (by simp)
              have x5 := gD.cell i5 (by simp)
              have x6 := gD.cell i6 (by simp)
              have x7 := gD.cell i7 (by simp)
              have x8 := gD.cell i8 (by simp)
              clear hV hs hz
              refine outO_val (v := .agg #[.int .i64 v.op, .int .i64 v.a, .int .i64 v.b, .int .i64 v.c, .int .i64 v.k, .int .i64 v.sub, .int .i64 v.scale, .int .i64 v.imm, .int .i64 v.label]) (w' := W0) ?_ (World.grownBy.refl _ _) rfl
              simp [go_sem, q7, e7, x0, x1, x2, x3, x4, x5, x6, x7, x8]
            · intro VV W0 AA g hV hs hz
              have gD : wr.grownBy W0 none := grown_trans (grown_drew (World.grownBy.refl _ none)) g
              have e01 := hz 1 (.slice (some ⟨b, off, none⟩) K c) (by kernel_rfl) rfl
              clear hV hs hz
              refine outO_val (v := .slice (some ⟨b, off, none⟩) K c) (w' := W0) ?_ (World.grownBy.refl _ _) rfl
              simp [go_sem, e01]
            · intro VV W0 AA g hV hs hz
              have gD : wr.grownBy W0 none := grown_trans (grown_drew (World.grownBy.refl _ none)) g
              have e07 := hz 7 (.int .i64 (k : Int)) (by kernel_rfl) rfl
              clear hV hs hz
              refine outO_val (v := .int .i64 (k : Int)) (w' := W0) ?_ (World.grownBy.refl _ _) rfl
              simp [go_sem, e07]
            · intro VV W0 AA g hV hs hz
              have gD : wr.grownBy W0 none := grown_trans (grown_drew (World.grownBy.refl _ none)) g
              have q9 : VV 9 = .slice (some ⟨b, off, none⟩) K c := hV 9 (by kernel_rfl)
              have e9 := hs 97 9 (by kernel_rfl) (by kernel_rfl)
              have q10 : VV 10 = .int .i64 (k : Int) := hV 10 (by kernel_rfl)
              have e10 := hs 98 10 (by kernel_rfl) (by kernel_rfl)
              clear hV hs hz
              refine outO_val (v := .pointer (some ⟨b, off + k * 3, none⟩)) (w' := W0) ?_ (World.grownBy.refl _ _) rfl
              simp [go_sem, q9, e9, q10, e10, hkK']
            · intro VV W0 AA g hV hs hz
              have gD : wr.grownBy W0 none := grown_trans (grown_drew (World.grownBy.refl _ none)) g
              have q11 : VV 11 = .pointer (some ⟨b, off + k * 3, none⟩) := hV 11 (by kernel_rfl)
              have e11 := hs 99 11 (by kernel_rfl) (by kernel_rfl)
              clear hV hs hz
              refine outO_val (v := .pointer (some ⟨b, off + k * 3 + 1, none⟩)) (w' := W0) ?_ (World.grownBy.refl _ _) rfl
              simp [go_sem, q11, e11]
            · intro VV W0 AA g hV hs hz
              have gD : wr.grownBy W0 none := grown_trans (grown_drew (World.grownBy.refl _ none)) g
              have q12 : VV 12 = .pointer (some ⟨b, off + k * 3 + 1, none⟩) := hV 12 (by kernel_rfl)
              have e12 := hs 100 12 (by kernel_rfl) (by kernel_rfl)
              have x0 := gD.cell c1 (by simp)
              clear hV hs hz
              refine outO_val (v := .slice ma m mc) (w' := W0) ?_ (World.grownBy.refl _ _) rfl
              simp [go_sem, q12, e12, x0]
            · intro VV W0 AA g hV hs hz
              have gD : wr.grownBy W0 none := grown_trans (grown_drew (World.grownBy.refl _ none)) g
              have q13 : VV 13 = .slice ma m mc := hV 13 (by kernel_rfl)
              have e13 := hs 101 13 (by kernel_rfl) (by kernel_rfl)
              clear hV hs hz
              refine outO_val (v := .int .i64 (m : Int)) (w' := W0) ?_ (World.grownBy.refl _ _) rfl
              simp [go_sem, q13, e13]
            · intro VV W0 AA g hV hs hz
              have gD : wr.grownBy W0 none := grown_trans (grown_drew (World.grownBy.refl _ none)) g
              have e01 := hz 1 (.slice (some ⟨b, off, none⟩) K c) (by kernel_rfl) rfl
              clear hV hs hz
              refine outO_val (v := .slice (some ⟨b, off, none⟩) K c) (w' := W0) ?_ (World.grownBy.refl _ _) rfl
              simp [go_sem, e01]
            · intro VV W0 AA g hV hs hz
              have gD : wr.grownBy W0 none := grown_trans (grown_drew (World.grownBy.refl _ none)) g
              have q15 : VV 15 = .slice (some ⟨b, off, none⟩) K c := hV 15 (by kernel_rfl)
              have e15 := hs 103 15 (by kernel_rfl) (by kernel_rfl)
              clear hV hs hz
              refine outO_val (v := .int .i64 (K : Int)) (w' := W0) ?_ (World.grownBy.refl _ _) rfl
              simp [go_sem, q15, e15]
            · intro VV W0 AA g hV hs hz
              have gD : wr.grownBy W0 none := grown_trans (grown_drew (World.grownBy.refl _ none)) g
              have q0 : VV 0 = .int .i64 1 := hV 0 (by kernel_rfl)
              have e0 := hs 88 0 (by kernel_rfl) (by kernel_rfl)
              have q8 : VV 8 = .agg #[.int .i64 v.op, .int .i64 v.a, .int .i64 v.b, .int .i64 v.c, .int .i64 v.k, .int .i64 v.sub, .int .i64 v.scale, .int .i64 v.imm, .int .i64 v.label] := hV 8 (by kernel_rfl)
              have e8 := hs 96 8 (by kernel_rfl) (by kernel_rfl)
              have q14 : VV 14 = .int .i64 (m : Int) := hV 14 (by kernel_rfl)
              have e14 := hs 102 14 (by kernel_rfl) (by kernel_rfl)
              have q16 : VV 16 = .int .i64 (K : Int) := hV 16 (by kernel_rfl)
              have e16 := hs 104 16 (by kernel_rfl) (by kernel_rfl)
              clear hV hs hz
              refine outO_call (f := 27) ?_ ((HMi.out W0).mono fun e w2 ⟨he, hg⟩ => ⟨_, he, hg, rfl⟩)
              simp [go_sem, q0, e0, q8, e8, q14, e14, q16, e16]
          · intro VV W0 g hV
            have gD : wr.grownBy W0 none := grown_trans (grown_drew (World.grownBy.refl _ none)) g
            have h0 : VV 0 = .int .i64 1 := hV 0 (by decide)
            have h1 : VV 1 = .slice (some ⟨b, off, none⟩) K c := hV 1 (by decide)
            have h2 : VV 2 = .int .i64 (k : Int) := hV 2 (by decide)
            have h3 : VV 3 = .pointer (some ⟨b, off + k * 3, none⟩) := hV 3 (by decide)
            have h4 : VV 4 = .pointer (some ⟨b, off + k * 3, none⟩) := hV 4 (by decide)
            have h5 : VV 5 = .slice (some ⟨ib, io, none⟩) n ic := hV 5 (by decide)
            have h6 : VV 6 = .int .i64 (i : Int) := hV 6 (by decide)
            have h7 : VV 7 = .pointer (some ⟨ib, io + i * 9, none⟩) := hV 7 (by decide)
            have h8 : VV 8 = .agg #[.int .i64 v.op, .int .i64 v.a, .int .i64 v.b, .int .i64 v.c, .int .i64 v.k, .int .i64 v.sub, .int .i64 v.scale, .int .i64 v.imm, .int .i64 v.label] := hV 8 (by decide)
            have h9 : VV 9 = .slice (some ⟨b, off, none⟩) K c := hV 9 (by decide)
            have h10 : VV 10 = .int .i64 (k : Int) := hV 10 (by decide)
            have h11 : VV 11 = .pointer (some ⟨b, off + k * 3, none⟩) := hV 11 (by decide)
            have h12 : VV 12 = .pointer (some ⟨b, off + k * 3 + 1, none⟩) := hV 12 (by decide)
            have h13 : VV 13 = .slice ma m mc := hV 13 (by decide)
            have h14 : VV 14 = .int .i64 (m : Int) := hV 14 (by decide)
            have h15 : VV 15 = .slice (some ⟨b, off, none⟩) K c := hV 15 (by decide)
            have h16 : VV 16 = .int .i64 (K : Int) := hV 16 (by decide)
            have h17 : VV 17 = .bool true := hV 17 (by decide)
            simp [frV, dstOf, Act.put, h0, h1, h2, h3, h4, h5, h6, h7, h8, h9, h10, h11, h12, h13, h14, h15, h16, h17]
            clear h0 h1 h2 h3 h4 h5 h6 h7 h8 h9 h10 h11 h12 h13 h14 h15 h16 h17 hV g
            have GR : Hid (wr.grownBy W0 none) := gD
            clear gD
            go_wp2_with fail
            go_roundw
            case rel => exact ⟨i + 1, by go_num, by omega, grown_trans HGr.out GR.out⟩
            case measure => simp [intOf]; omega
end Go.Proofs.YtkiockffejlnhaaGreatDoor
