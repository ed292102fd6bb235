/- link's code: the bytes of all parts. -/
import Derived.Test.YtkiockffejlnhaaGreatDoorG16
namespace Go.Proofs.YtkiockffejlnhaaGreatDoor
set_option maxRecDepth 100000
set_option maxHeartbeats 32000000
open Go.RowKit
set_option linter.unusedVariables false
theorem wp_appS2 {ops : Array Oper} {rest : List Oper} {o : Oper} {a : Act} {Q : Exit → Act → World → Prop} {W : World} (hgd : o.guard = none) (s x : Operand)
  (ho : o.op = .call { callee := .builtin .append, args := #[s, x], argTypes := #[24, 24] }) (base : Nat) (v : Value) (l m : List Int) (T c b2 : Nat) (hs : a.eval s = v) (hown : OwnL W base v l)
  (hx : a.eval x = .slice (some ⟨T, 0, none⟩) m.length c) (hsrc : OwnL W b2 (.slice (some ⟨T, 0, none⟩) m.length c) m) (hl : l.length ≤ 2000000) (hm : m.length ≤ 1000) (hb : base ≤ W.heap.size)
  (h : ∀ v' w', OwnL w' base v' (l ++ m) → W.grownBy w' v.ownBlock → wpList Tryz.prog ops Q rest (a.put o.dst v') w') : wpList Tryz.prog ops Q (o :: rest) a W := by
 obtain ⟨i, hi, hz0, hz1, hz2⟩ := info_parts info_u8
 refine wpList_append_own _ hgd s x 24 ho base 5 i (.int .u8 0) 1 1 Tryz.underlying24 hi hz0 hz1 hz2 rfl (by decide) v l.length (l.map (Value.int .u8)) hs hown ⟨T, 0, none⟩ m.length c (m.map (Value.int .u8)) hx (by simp)
  (fun j y hj => World.ownsRow.cells hsrc rfl j y hj) (by intro y hy; obtain ⟨z, _, rfl⟩ := List.mem_map.mp hy; rfl) (by unfold maxLen; omega) (by omega) hb ?_
 intro v' w2 ho2 hg2 _
 exact h v' w2 (OwnL.app ho2) hg2
theorem apart_ty {w : World} {b : Nat} {al : Value} {l : List Int} (h : OwnL w b al l) {g : Nat} {cur : Array Value} {e : TypeId} {f : Nat × Nat} (he : w.heap[g]? = some (.cells cur e f)) (hne : e ≠ 5) : al.ownBlock ≠ some g := by
 intro hb
 rcases h.2 with ⟨e1, _⟩ | ⟨g', c, cur', e1, _, e2, _⟩
 ·rw [e1] at hb; cases hb
 ·rw [e1] at hb
  simp [Value.ownBlock] at hb
  subst hb
  rw [he] at e2
  simp at e2
  exact hne e2.2.1
theorem OwnN.blk {w : World} {base T n c : Nat} {g : Nat → Int} (h : OwnN w base (.slice (some ⟨T, 0, none⟩) n c) n g) : ∃ cur, w.heap[T]? = some (.cells cur 3 (0, 0)) := by
 rcases h.2 with ⟨e1, _⟩ | ⟨g', c', cur', e1, _, e2, _⟩
 ·cases e1
 ·simp at e1
  obtain ⟨rfl, _⟩ := e1
  exact ⟨cur', e2⟩
theorem ch_row {w w' : World} {v : Value} (h : w.grownBy w' v.ownBlock) : ∃ l : List Nat, Ch w w' l ∧ ∀ k, k ∈ l → v.ownBlock = some k := by
 cases hb : v.ownBlock with
 | none => exact ⟨[], Ch.of (by rw [hb] at h; exact h), by simp⟩
 | some b => exact ⟨[b], Ch.one (by rw [hb] at h; exact h) (by simp), by simp⟩
theorem OwnN.keptL {w w' : World} {base T n c b : Nat} {g : Nat → Int} {al : Value} {l : List Int} (h : OwnN w base (.slice (some ⟨T, 0, none⟩) n c) n g) (ho : OwnL w b al l) (hg : w.grownBy w' al.ownBlock) : OwnN w' base (.slice (some ⟨T, 0, none⟩) n c) n g := by
 obtain ⟨L, hL, hm⟩ := ch_row hg
 obtain ⟨cur, e⟩ := h.blk
 exact h.ch hL (fun k hk hmem => by
  simp [Value.ownBlock] at hk
  subst hk
  exact apart_ty ho e (by decide) (hm _ hmem))
theorem Rw.keptL {N : Nat} {w w' : World} {rv : Value} {K fe b : Nat} {V : Nat → Lk.PcV} {A : Nat → PtA} {S : Nat → Nat → Int} {al : Value} {l : List Int} (h : Rw N w rv K fe V A S) (ho : OwnL w b al l) (hN : N ≤ b) (hg : w.grownBy w' al.ownBlock) : Rw N w' rv K fe V A S := by
 obtain ⟨L, hL, hm⟩ := ch_row hg
 refine h.ch hL (fun k hk => Nat.le_trans hN (ho.base k (hm k hk))) (fun k hk hmem => ?_) (fun k hk hmem => ?_) (fun k hk hmem => ?_)
 ·rcases h.own.2 with ⟨e1, _⟩ | ⟨g', c, cur', e1, _, e2, _⟩
  ·rw [e1] at hk; cases hk
  ·rw [e1] at hk
   simp [Value.ownBlock] at hk
   subst hk
   exact apart_ty ho e2 (by decide) (hm _ hmem)
 ·exact apart_ty ho (h.pt k hk).blk (by decide) (hm _ hmem)
 ·obtain ⟨cur, e⟩ := (h.sz k hk).blk
  exact apart_ty ho e (by decide) (hm _ hmem)
theorem grown_L {w w1 w2 : World} {b : Nat} {al : Value} {l : List Int} (g1 : w.grownBy w1 none) (ho : OwnL w1 b al l) (hb : w.heap.size ≤ b) (g2 : w1.grownBy w2 al.ownBlock) : w.grownBy w2 none :=
 own_new (v := .nilFunc) g1 g2 (fun k hk => Nat.le_trans hb (ho.base k hk))
theorem code_r {N : Nat} {w : World} {rv : Value} {K : Nat} {V : Nat → Lk.PcV} {A : Nat → PtA} {Ls : Nat → Nat → Bool} {TF bF : Nat} (h : Rw N w rv K 60 V A (Lk.SS 1 V Ls)) (hF : OwnN w bF (.slice (some ⟨TF, 0, none⟩) K K) K (Lk.pos (ends V (Lk.SS 1 V Ls)))) (hL : Lk.Lkd 1 K V Ls) (hTab : TabAt w) (hTN : 2 < N) (hNw : N ≤ w.heap.size) (hK : K ≤ 33) :
  Calls Tryz.prog 24 #[rv, .slice (some ⟨TF, 0, none⟩) K K] w fun e w' => ∃ v, e = .returned v ∧ OwnL w' w.heap.size v (Lk.codeA 1 V (Lk.SS 1 V Ls) K) ∧ w.grownBy w' none := by
 have hK' : (K : Int) ≤ 33 := by omega
 have HTw : Hid (∀ W, w.grownBy W none → TabAt W) := fun W g => hTab.kept g (by simp)
 have HL : Hid (Lk.Lkd 1 K V Ls) := hL
 obtain ⟨S, hS⟩ : ∃ S, S = Lk.SS 1 V Ls := ⟨_, rfl⟩
 have HLn : Hid (∀ k, k < K → (V k).n ≤ 1048576) := fun k hk => hL.n_le hk
 have HPi : Hid (∀ k, k < K → ∀ i, i ≤ (V k).n → 0 ≤ Lk.pos (S k) i ∧ Lk.pos (ends V S) k + Lk.pos (S k) i ≤ 1048576 ∧ 0 ≤ Lk.pos (ends V S) k) := fun k hk i hi => by rw [hS]; exact hL.pos_in hk hi
 have HFi : Hid (∀ k, k < K → ∀ i, i < (V k).n → Ru.mayT 1 (Lk.fin 1 V S k i) = true ∧ InRng (Lk.fin 1 V S k i) ∧ ((Ru.encT 1 (Lk.fin 1 V S k i)).length : Int) = S k i) := fun k hk i hi => by rw [hS]; exact hL.fin hk hi
 have HLA : Hid (∀ k, k ≤ K → ((Lk.codeA 1 V S k).length : Int) = Lk.pos (ends V S) k) := fun k hk => by rw [hS]; exact hL.lenA hk
 have HLP : Hid (∀ k, k < K → ∀ i, i ≤ (V k).n → ((Lk.codeP 1 V S k i).length : Int) = Lk.pos (S k) i) := fun k hk i hi => by rw [hS]; exact hL.lenP hk hi
 have HIm : Hid (∀ W k, k < K → Rw N W rv K 60 V A S → Calls Tryz.prog 41 #[.pointer (some ⟨(A k).B, 0, none⟩)] W fun e w' => ∃ T, e = .returned (.slice (some ⟨T, 0, none⟩) (V k).n (V k).n) ∧ OwnN w' W.heap.size (.slice (some ⟨T, 0, none⟩) (V k).n (V k).n) (V k).n (Lk.immJ (V k) 1 (S k)) ∧ W.grownBy w' none) := fun W k hk hW => by
  have hn := hL.n_le hk
  refine pimms_any (hW.pt k hk) (hW.sz k hk) (hL.ok k hk) (by omega) (fun i hi => ?_)
  have := Lk.size_le (hL.ok k hk) (Ls k) hi
  rw [hS]
  show 0 ≤ ((V k).sh 1).size (Ls k) i ∧ ((V k).sh 1).size (Ls k) i ≤ 40
  omega
 have HOk : Hid (∀ k, k < K → ∀ i, i < (V k).n → Lk.labB (V k).m K ((V k).I i) = true) := fun k hk i hi => ((hL.ok k hk).may hi).1
 rw [← hS] at h hF ⊢
 have HR : Hid (Rw N w rv K 60 V A S) := h
 have HF0 : Hid (OwnN w bF (.slice (some ⟨TF, 0, none⟩) K K) K (Lk.pos (ends V S))) := hF
 obtain ⟨Fs, hFs⟩ : ∃ Fs, Fs = Lk.pos (ends V S) := ⟨_, rfl⟩
 rw [← hFs] at HPi HLA HF0
 have HFin : Hid (∀ k i, Lk.fin 1 V S k i = if Lk.jmpB ((V k).I i).op then Lk.lead ((V k).I i) (Lk.immS (V k) 1 (S k) i) else if ((V k).I i).op = 23 then Lk.lead ((V k).I i) (Fs ((V k).I i).label.toNat - (Fs k + Lk.pos (S k) (i + 1))) else (V k).I i) := fun k i => by rw [hFs]; rfl
 have HJd : Hid (∀ k i, Lk.immJ (V k) 1 (S k) i = if Lk.jmpB ((V k).I i).op then Lk.immS (V k) 1 (S k) i else 0) := fun k i => rfl
 clear h hF hTab hS hFs hL
 obtain ⟨ar, cr, rfl, _, _, har⟩ := HR.out.slice
 have HAr : Hid (0 < K → ∃ R, ar = some ⟨R, 0, none⟩) := fun h0 => by obtain ⟨R, e, _⟩ := har h0; exact ⟨R, e⟩
 clear har
 go_enter Tryz.func24, Tryz.ntmps24
 go_wp2_with fail
 go_loopw [5, 16] (fun c i wr => ∃ k : Nat, i = .int .i64 k ∧ k ≤ K ∧ OwnL wr w.heap.size c (Lk.codeA 1 V S k) ∧ Rw N wr (.slice ar K cr) K 60 V A S ∧ OwnN wr bF (.slice (some ⟨TF, 0, none⟩) K K) K Fs ∧ w.grownBy wr none) (fun _ i _ => K - (intOf i).toNat)
 case atStart => exact ⟨0, rfl, Nat.zero_le _, World.ownsRow_nil _ _ _ _, HR.out, HF0.out, gr0⟩
 case round =>
  obtain ⟨al, hal⟩ : ∃ al, al = u5 := ⟨_, rfl⟩
  obtain ⟨k, rfl, hk, hoc, hrw, hof, hg⟩ := hrel
  rw [← hal] at hoc ⊢
  clear hal
  obtain ⟨wo, rfl⟩ : ∃ wo, wo = wr := ⟨wr, rfl⟩
  have HOc : Hid (OwnL wo w.heap.size al (Lk.codeA 1 V S k)) := hoc
  have HRo : Hid (Rw N wo (.slice ar K cr) K 60 V A S) := hrw
  have HFo : Hid (OwnN wo bF (.slice (some ⟨TF, 0, none⟩) K K) K Fs) := hof
  have HGo : Hid (w.grownBy wo none) := hg
  clear hoc hrw hof hg
  by_cases hkK : k < K
  ·have hkK' : (k : Int) < K := by omega
   obtain ⟨R, rfl⟩ := HAr.out (by omega)
   have ck : wo.cell? ⟨R, k, none⟩ = some (.pointer (some ⟨(A k).B, 0, none⟩)) := by
    obtain ⟨a', c', e, _, _, hh⟩ := HRo.out.slice
    simp at e
    obtain ⟨rfl, rfl⟩ := e
    obtain ⟨R', e', hc'⟩ := hh (by omega)
    simp at e'
    subst e'
    exact hc' k hkK
   have cf := HFo.out.cell hkK
   have HIk := HIm.out wo k hkK HRo.out
   obtain ⟨n, hnn⟩ : ∃ n, n = (V k).n := ⟨_, rfl⟩
   have HNn : Hid (n = (V k).n) := hnn
   have hn := HLn.out k hkK
   rw [← hnn] at HIk hn
   obtain ⟨J, hJ⟩ : ∃ J, J = Lk.immJ (V k) 1 (S k) := ⟨_, rfl⟩
   have HJe : Hid (J = Lk.immJ (V k) 1 (S k)) := hJ
   rw [← hJ] at HIk
   have HIk2 : Hid (Calls Tryz.prog 41 #[.pointer (some ⟨(A k).B, 0, none⟩)] wo fun e w' => ∃ T, e = .returned (.slice (some ⟨T, 0, none⟩) n n) ∧ OwnN w' wo.heap.size (.slice (some ⟨T, 0, none⟩) n n) n J ∧ wo.grownBy w' none) := HIk
   clear hnn hJ HIk
   have hn' : (n : Int) ≤ 1048576 := by omega
   obtain ⟨ia, hia⟩ : ∃ ia, ia = (A k).ia := ⟨_, rfl⟩
   obtain ⟨ic, hic⟩ : ∃ ic, ic = (A k).ic := ⟨_, rfl⟩
   have HC1 : Hid (∀ W, Rw N W (.slice (some ⟨R, 0, none⟩) K cr) K 60 V A S → W.cell? ⟨(A k).B, 1, none⟩ = some (.slice ia n ic) ∧ W.cell? ⟨(A k).B, 3, none⟩ = some (.slice (some ⟨(A k).T, 0, none⟩) n n) ∧ InsIn N W ia n ic (V k).I) := fun W hW => by
    rw [hia, hic, HNn.out]
    exact ⟨(hW.pt k hkK).c1, (hW.pt k hkK).c3, (hW.pt k hkK).ins⟩
   have HC3 : Hid (∀ W, Rw N W (.slice (some ⟨R, 0, none⟩) K cr) K 60 V A S → ∀ i, i < n → W.cell? ⟨(A k).T, i, none⟩ = some (.int .i64 (S k i))) := fun W hW i hi => (hW.sz k hkK).cell (by rw [← HNn.out]; exact hi)
   clear hia hic
   have c1o := (HC1.out wo HRo.out).1
   go_wp2_with (go_at_call 41; refine HIk2.out.mono ?_; rintro e w1 ⟨TJ, rfl, ho1, hg1⟩; have HJ1 : Hid (OwnN w1 wo.heap.size (.slice (some ⟨TJ, 0, none⟩) n n) n J) := ho1; have HG1 : Hid (wo.grownBy w1 none) := hg1; have cf1 := hg1.cell cf (by simp); have c11 := hg1.cell c1o (by simp); clear ho1 hg1)
   have HO1 : Hid (OwnL w1 w.heap.size al (Lk.codeA 1 V S k)) := OwnL.grow HOc.out HG1.out
   have HR1 : Hid (Rw N w1 (.slice (some ⟨R, 0, none⟩) K cr) K 60 V A S) := HRo.out.grow HG1.out
   have HF1 : Hid (OwnN w1 bF (.slice (some ⟨TF, 0, none⟩) K K) K Fs) := HFo.out.grow HG1.out
   have HGw1 : Hid (w.grownBy w1 none) := gtr HGo.out HG1.out
   obtain ⟨bJ, hbJ⟩ : ∃ bJ, bJ = wo.heap.size := ⟨_, rfl⟩
   rw [← hbJ] at HJ1
   clear HIk2 ck cf cf1 c11 c1o hbJ HOc HRo HFo HGo HG1
   obtain ⟨Bk, hBk⟩ : ∃ Bk, Bk = (A k).B := ⟨_, rfl⟩
   obtain ⟨Tk, hTk⟩ : ∃ Tk, Tk = (A k).T := ⟨_, rfl⟩
   rw [← hBk, ← hTk] at HC1
   rw [← hTk] at HC3
   rw [← hBk]
   have HBk : Hid (Bk = (A k).B) := hBk
   clear hBk hTk
   go_loopw [5, 9, 32] (fun c at' i wr => ∃ i0 : Nat, i = .int .i64 i0 ∧ at' = .int .i64 (Fs k + Lk.pos (S k) i0) ∧ i0 ≤ n ∧ OwnL wr w.heap.size c (Lk.codeA 1 V S k ++ Lk.codeP 1 V S k i0) ∧ Rw N wr (.slice (some ⟨R, 0, none⟩) K cr) K 60 V A S ∧ OwnN wr bF (.slice (some ⟨TF, 0, none⟩) K K) K Fs ∧ OwnN wr bJ (.slice (some ⟨TJ, 0, none⟩) n n) n J ∧ w.grownBy wr none) (fun _ _ i _ => n - (intOf i).toNat)
   case atStart => exact ⟨0, rfl, by (congr 1; show Fs k = Fs k + 0; omega), Nat.zero_le _, OwnL.cast HO1.out (by show _ ++ [] = _; rw [List.append_nil]), HR1.out, HF1.out, HJ1.out, HGw1.out⟩
   case round =>
    obtain ⟨cv, hcv⟩ : ∃ cv, cv = u5 := ⟨_, rfl⟩
    obtain ⟨i, rfl, rfl, hi, hoc, hrw, hof, hoj, hg⟩ := hrel
    rw [← hcv] at hoc ⊢
    clear hcv
    obtain ⟨cl, hcl0⟩ : ∃ cl, cl = Lk.codeA 1 V S k ++ Lk.codeP 1 V S k i := ⟨_, rfl⟩
    have hPi := HPi.out k hkK i (by rw [← HNn.out]; exact hi)
    have hcl : cl.length ≤ 2000000 := by
     rw [hcl0, List.length_append]
     have h1 := HLA.out k (by omega)
     have h2 := HLP.out k hkK i (by rw [← HNn.out]; exact hi)
     omega
    rw [← hcl0] at hoc
    have HCl : Hid (cl = Lk.codeA 1 V S k ++ Lk.codeP 1 V S k i) := hcl0
    clear hcl0
    obtain ⟨ao, cp, rfl⟩ : ∃ ao cp, cv = .slice ao cl.length cp := by
     obtain ⟨ao, cp, e, _⟩ := (OwnL.toB hoc).shape
     exact ⟨ao, cp, e⟩
    have HO : Hid (OwnL wr w.heap.size (.slice ao cl.length cp) cl) := hoc
    have HRr : Hid (Rw N wr (.slice (some ⟨R, 0, none⟩) K cr) K 60 V A S) := hrw
    have HFr : Hid (OwnN wr bF (.slice (some ⟨TF, 0, none⟩) K K) K Fs) := hof
    have HJr : Hid (OwnN wr bJ (.slice (some ⟨TJ, 0, none⟩) n n) n J) := hoj
    have HG : Hid (w.grownBy wr none) := hg
    clear hoc hof hoj hg
    by_cases hin : i < n
    ·have hin' : (i : Int) < n := by omega
     obtain ⟨c1r, c3r, insr⟩ := HC1.out wr hrw
     have csr := HC3.out wr hrw i hin
     obtain ⟨b, off, rfl, hb, hIn, hrng⟩ := insr.at hin
     obtain ⟨v, hv⟩ : ∃ v, v = (V k).I i := ⟨_, rfl⟩
     rw [← hv] at hIn hrng
     obtain ⟨d0, d1, d2, d3, d4, d5, d6, d7, d8⟩ := hIn
     have hfi := HFi.out k hkK i (by rw [← HNn.out]; exact hin)
     have hPi1 := HPi.out k hkK (i + 1) (by rw [← HNn.out]; exact hin)
     rw [Lk.pos_succ] at hPi1
     obtain ⟨u, hu⟩ : ∃ u, u = Lk.fin 1 V S k i := ⟨_, rfl⟩
     rw [← hu] at hfi
     have hue := HFin.out k i
     rw [← hu, ← hv] at hue
     have HEq : Hid (Lk.codeA 1 V S k ++ Lk.codeP 1 V S k (i + 1) = cl ++ Ru.encT 1 u) := by
      show _ = _
      rw [HCl.out, hu, List.append_assoc]
      rfl
     have hJi : J i = if Lk.jmpB v.op then Lk.immS (V k) 1 (S k) i else 0 := by rw [HJe.out, HJd.out, ← hv]
     have hlab : Lk.labB (V k).m K v = true := by rw [hv]; exact HOk.out k hkK i (by rw [← HNn.out]; exact hin)
     obtain ⟨hmay, hurg, hEl⟩ := hfi
     have cj := HJr.out.cell hin
     have HIJ : Hid (∀ W, Calls Tryz.prog 46 #[.agg #[.int .i64 v.op, .int .i64 v.a, .int .i64 v.b, .int .i64 v.c, .int .i64 v.k, .int .i64 v.sub, .int .i64 v.scale, .int .i64 v.imm, .int .i64 v.label]] W fun e w' => e = .returned (.bool (Lk.jmpB v.op)) ∧ W.grownBy w' none) := fun W => isjump_any v W
     have HIC : Hid (∀ W, Calls Tryz.prog 48 #[.agg #[.int .i64 v.op, .int .i64 v.a, .int .i64 v.b, .int .i64 v.c, .int .i64 v.k, .int .i64 v.sub, .int .i64 v.scale, .int .i64 v.imm, .int .i64 v.label]] W fun e w' => e = .returned (.bool (v.op == 23)) ∧ W.grownBy w' none) := fun W => iscall_any v W
     have IN := InstAt.new wr v
     have hA := World.grownBy_alloc wr (Obj.cells #[.int .i64 v.op, .int .i64 v.a, .int .i64 v.b, .int .i64 v.c, .int .i64 v.k, .int .i64 v.sub, .int .i64 v.scale, .int .i64 v.imm, .int .i64 v.label] 50) none
     have c1A := hA.cell c1r (by simp)
     have c3A := hA.cell c3r (by simp)
     have csA := hA.cell csr (by simp)
     clear hrw insr hrng hu hv
     cases hj : Lk.jmpB v.op
     ·rw [hj] at hue hJi HIJ
      simp only [Bool.false_eq_true, if_false] at hue
      cases hc : v.op == 23
      ·rw [hc] at HIC
       have hc' : ¬ v.op = 23 := by simpa using hc
       rw [if_neg hc'] at hue
       rw [hue] at HEq hmay hurg hEl
       clear hue hc hc' hlab
       go_wp2_with (first | (go_at_call 46; refine (HIJ.out _).mono ?_; rintro e w2 ⟨rfl, hg2⟩; obtain ⟨z0, z1, z2, z3, z4, z5, z6, z7, z8, zz⟩ := IN.kept hg2 (by simp); clear zz) | (go_at_call 48; refine (HIC.out _).mono ?_; rintro e w3 ⟨rfl, hg3⟩))
       have HG6' : wr.grownBy w3 none := gtr hA (gtr hg2 hg3)
       have IN6 := (IN.kept hg2 (by simp)).kept hg3 (by simp)
       obtain ⟨W6, hW6⟩ : ∃ W6, W6 = w3 := ⟨_, rfl⟩
       rw [← hW6] at HG6' IN6 ⊢
       clear hW6 hA hg2 hg3 IN z0 z1 z2 z3 z4 z5 z6 z7 z8 d0 d1 d2 d3 d4 d5 d6 d7 d8 c1A c3A csA c1r c3r csr cj
       obtain ⟨bx, hbx⟩ : ∃ bx, bx = wr.heap.size := ⟨_, rfl⟩
       rw [← hbx] at IN6 ⊢
       clear hbx
       obtain ⟨x0, x1, x2, x3, x4, x5, x6, x7, x8, xz⟩ := IN6
       clear xz
       have HO6 : Hid (OwnL W6 w.heap.size (.slice ao cl.length cp) cl) := OwnL.grow HO.out HG6'
       have HR6 : Hid (Rw N W6 (.slice (some ⟨R, 0, none⟩) K cr) K 60 V A S) := HRr.out.grow HG6'
       have HF6 : Hid (OwnN W6 bF (.slice (some ⟨TF, 0, none⟩) K K) K Fs) := HFr.out.grow HG6'
       have HJ6 : Hid (OwnN W6 bJ (.slice (some ⟨TJ, 0, none⟩) n n) n J) := HJr.out.grow HG6'
       have HG6 : Hid (w.grownBy W6 none) := gtr HG.out HG6'
       clear HO HRr HFr HJr HG HG6'
       obtain ⟨SS, hSS⟩ : ∃ SS, SS = Ru.encT 1 (v) := ⟨_, rfl⟩
       rw [← hSS] at HEq hEl
       have HEn : Hid (∀ W, W6.grownBy W none → Calls Tryz.prog 60 #[.agg #[.int .i64 v.op, .int .i64 v.a, .int .i64 v.b, .int .i64 v.c, .int .i64 v.k, .int .i64 v.sub, .int .i64 v.scale, .int .i64 v.imm, .int .i64 v.label]] W fun e w' => ∃ T' c', e = .returned (.tuple #[.slice (some ⟨T', 0, none⟩) SS.length c', .int .i64 0]) ∧ OwnL w' W.heap.size (.slice (some ⟨T', 0, none⟩) SS.length c') SS ∧ W.grownBy w' none) := fun W g => by rw [hSS]; exact enc_r v W hurg hmay
       have hSl : SS.length ≤ 1000 := by rw [hSS]; have := (Ru.encT_len 1 (v)).2; omega
       clear hSS
       have p0 := (HR6.out.pt k hkK).c0
       rw [← HBk.out] at p0
       go_cut [12, 13] (fun b e wx => ∃ T' c', b = .slice (some ⟨T', 0, none⟩) SS.length c' ∧ e = .int .i64 0 ∧ OwnL wx W6.heap.size (.slice (some ⟨T', 0, none⟩) SS.length c') SS ∧ W6.grownBy wx none)
       case first =>
        refine region_late 9 8 _ _ _ (psiE [.pointer (some ⟨Bk, 0, none⟩), .pointer (some ⟨Bk, 0, none⟩), .pointer (some ⟨Bk, 0, none⟩), .func (.func 60) #[] #[], .agg #[.int .i64 v.op, .int .i64 v.a, .int .i64 v.b, .int .i64 v.c, .int .i64 v.k, .int .i64 v.sub, .int .i64 v.scale, .int .i64 v.imm, .int .i64 v.label]] W6.heap.size SS) (by kernel_rfl) (by kernel_rfl) rfl rfl rfl (by kernel_rfl) (by kernel_rfl) (fun i x w0 w1 hi h g => psiE_stable h g) ?_ ?_ ?_
        ·simp only [List.take_succ_cons, List.take_zero]
         refine ⟨?_, ?_, ?_, ?_, ?_, ?_, ?_, ?_, ?_, trivial⟩
         ·intro VV W0 AA g hV hs hz
          have e07 := hz 7 (.pointer (some ⟨Bk, 0, none⟩)) (by kernel_rfl) rfl
          refine outO_val (v := .pointer (some ⟨Bk, 0, none⟩)) (w' := W0) ?_ gr0 (psiE_mk (by simp) rfl)
          simp [go_sem, e07]
         ·intro VV W0 AA g hV hs hz
          have q0 : VV 0 = .pointer (some ⟨Bk, 0, none⟩) := psiE_f (hV 0 (by kernel_rfl)) (by simp)
          have e0 := hs 68 0 (by kernel_rfl) (by kernel_rfl)
          refine outO_val (v := .pointer (some ⟨Bk, 0, none⟩)) (w' := W0) ?_ gr0 (psiE_mk (by simp) rfl)
          simp [go_sem, q0, e0]
         ·intro VV W0 AA g hV hs hz
          have q1 : VV 1 = .pointer (some ⟨Bk, 0, none⟩) := psiE_f (hV 1 (by kernel_rfl)) (by simp)
          have e1 := hs 69 1 (by kernel_rfl) (by kernel_rfl)
          refine outO_val (v := .pointer (some ⟨Bk, 0, none⟩)) (w' := W0) ?_ gr0 (psiE_mk (by simp) rfl)
          simp [go_sem, q1, e1]
         ·intro VV W0 AA g hV hs hz
          have gD : W6.grownBy W0 none := gdd g
          have q2 : VV 2 = .pointer (some ⟨Bk, 0, none⟩) := psiE_f (hV 2 (by kernel_rfl)) (by simp)
          have e2 := hs 70 2 (by kernel_rfl) (by kernel_rfl)
          have x0 := gD.cell p0 (by simp)
          refine outO_val (v := .func (.func 60) #[] #[]) (w' := W0) ?_ gr0 (psiE_mk (by simp) rfl)
          simp [go_sem, q2, e2, x0]
         ·intro VV W0 AA g hV hs hz
          have gD : W6.grownBy W0 none := gdd g
          have e011 := hz 11 (.pointer (some ⟨bx, 0, none⟩)) (by kernel_rfl) rfl
          have x0 := gD.cell x0 (by simp)
          have x1 := gD.cell x1 (by simp)
          have x2 := gD.cell x2 (by simp)
          have x3 := gD.cell x3 (by simp)
          have x4 := gD.cell x4 (by simp)
          have x5 := gD.cell x5 (by simp)
          have x6 := gD.cell x6 (by simp)
          have x7 := gD.cell x7 (by simp)
          have x8 := gD.cell x8 (by simp)
          refine outO_val (v := .agg #[.int .i64 v.op, .int .i64 v.a, .int .i64 v.b, .int .i64 v.c, .int .i64 v.k, .int .i64 v.sub, .int .i64 v.scale, .int .i64 v.imm, .int .i64 v.label]) (w' := W0) ?_ gr0 (psiE_mk (by simp) rfl)
          simp [go_sem, e011, x0, x1, x2, x3, x4, x5, x6, x7, x8]
         ·intro VV W0 AA g hV hs hz
          have gD : W6.grownBy W0 none := gdd g
          have q3 : VV 3 = .func (.func 60) #[] #[] := psiE_f (hV 3 (by kernel_rfl)) (by simp)
          have e3 := hs 71 3 (by kernel_rfl) (by kernel_rfl)
          have q4 : VV 4 = .agg #[.int .i64 v.op, .int .i64 v.a, .int .i64 v.b, .int .i64 v.c, .int .i64 v.k, .int .i64 v.sub, .int .i64 v.scale, .int .i64 v.imm, .int .i64 v.label] := psiE_f (hV 4 (by kernel_rfl)) (by simp)
          have e4 := hs 72 4 (by kernel_rfl) (by kernel_rfl)
          refine outO_call (f := 60) ?_ (psi_call (by have := g.size; exact this) (by simp) (by simp) (HEn.out W0 gD))
          simp [go_sem, q3, e3, q4, e4]
         ·intro VV W0 AA g hV hs hz
          obtain ⟨T1, k1, h1, o1⟩ := psiE_t (hV 5 (by kernel_rfl)) (by simp) (by simp)
          have e1 := hs 73 5 (by kernel_rfl) (by kernel_rfl)
          refine outO_val (v := VV 5) (w' := W0) ?_ gr0 (psiE_mt (by simp) (by simp) ⟨T1, k1, h1, o1⟩)
          simp [go_sem, e1]
         ·intro VV W0 AA g hV hs hz
          obtain ⟨T1, k1, h1, o1⟩ := psiE_t (hV 6 (by kernel_rfl)) (by simp) (by simp)
          have e1 := hs 67 6 (by kernel_rfl) (by kernel_rfl)
          refine outO_val (v := .slice (some ⟨T1, 0, none⟩) SS.length k1) (w' := W0) ?_ gr0 (psiE_ms (by simp) ⟨T1, k1, rfl, o1⟩)
          simp [go_sem, e1, h1]
         ·intro VV W0 AA g hV hs hz
          obtain ⟨T1, k1, h1, o1⟩ := psiE_t (hV 6 (by kernel_rfl)) (by simp) (by simp)
          have e1 := hs 67 6 (by kernel_rfl) (by kernel_rfl)
          refine outO_val (v := .int .i64 0) (w' := W0) ?_ gr0 (psiE_me (by simp) rfl)
          simp [go_sem, e1, h1]
        ·intro VV W0 g hV
         have gD : W6.grownBy W0 none := gdd g
         have h0 : VV 0 = .pointer (some ⟨Bk, 0, none⟩) := psiE_f (hV 0 (by decide)) (by simp)
         have h1 : VV 1 = .pointer (some ⟨Bk, 0, none⟩) := psiE_f (hV 1 (by decide)) (by simp)
         have h2 : VV 2 = .pointer (some ⟨Bk, 0, none⟩) := psiE_f (hV 2 (by decide)) (by simp)
         have h3 : VV 3 = .func (.func 60) #[] #[] := psiE_f (hV 3 (by decide)) (by simp)
         have h4 : VV 4 = .agg #[.int .i64 v.op, .int .i64 v.a, .int .i64 v.b, .int .i64 v.c, .int .i64 v.k, .int .i64 v.sub, .int .i64 v.scale, .int .i64 v.imm, .int .i64 v.label] := psiE_f (hV 4 (by decide)) (by simp)
         obtain ⟨T1, k1, h5, _⟩ := psiE_t (hV 5 (by decide)) (by simp) (by simp)
         obtain ⟨T2, k2, h6, _⟩ := psiE_t (hV 6 (by decide)) (by simp) (by simp)
         obtain ⟨T3, k3, h7, o3⟩ := psiE_s (hV 7 (by decide)) (by simp)
         have h8 := psiE_e (hV 8 (by decide)) (by simp)
         simp [frV, dstOf, Act.put, h0, h1, h2, h3, h4, h5, h6, h7, h8]
         clear h0 h1 h2 h3 h4 h5 h6 h7 h8 hV g
         have GR : Hid (W6.grownBy W0 none) := gD
         have O3 : Hid (OwnL W0 W6.heap.size (.slice (some ⟨T3, 0, none⟩) SS.length k3) SS) := o3
         clear gD o3
         go_wp2_with fail
         go_meet
         exact ⟨T3, k3, rfl, rfl, O3.out, GR.out⟩
        ·intro VV W0 g hV hold
         have gD : W6.grownBy W0 none := gdd g
         have h0 : VV 0 = .pointer (some ⟨Bk, 0, none⟩) := psiE_f (hV 0 (by decide) (by decide)) (by simp)
         have h1 : VV 1 = .pointer (some ⟨Bk, 0, none⟩) := psiE_f (hV 1 (by decide) (by decide)) (by simp)
         have h2 : VV 2 = .pointer (some ⟨Bk, 0, none⟩) := psiE_f (hV 2 (by decide) (by decide)) (by simp)
         have h3 : VV 3 = .func (.func 60) #[] #[] := psiE_f (hV 3 (by decide) (by decide)) (by simp)
         have h4 : VV 4 = .agg #[.int .i64 v.op, .int .i64 v.a, .int .i64 v.b, .int .i64 v.c, .int .i64 v.k, .int .i64 v.sub, .int .i64 v.scale, .int .i64 v.imm, .int .i64 v.label] := psiE_f (hV 4 (by decide) (by decide)) (by simp)
         obtain ⟨T1, k1, h5, _⟩ := psiE_t (hV 5 (by decide) (by decide)) (by simp) (by simp)
         obtain ⟨T2, k2, h6, _⟩ := psiE_t (hV 6 (by decide) (by decide)) (by simp) (by simp)
         obtain ⟨T3, k3, h7, o3⟩ := psiE_s (hV 7 (by decide) (by decide)) (by simp)
         obtain ⟨y, h8⟩ : ∃ y, VV 8 = y := ⟨_, rfl⟩
         simp [frV, dstOf, Act.put, h0, h1, h2, h3, h4, h5, h6, h7, h8]
         clear h0 h1 h2 h3 h4 h5 h6 h7 h8 hV g hold
         have GR : Hid (W6.grownBy W0 none) := gD
         have O3 : Hid (OwnL W0 W6.heap.size (.slice (some ⟨T3, 0, none⟩) SS.length k3) SS) := o3
         clear gD o3
         go_wp2_with fail
         go_meet
         exact ⟨T3, k3, rfl, rfl, O3.out, GR.out⟩
       case rest =>
        obtain ⟨T', c', rfl, rfl, oSS, g1⟩ := hcut
        obtain ⟨W7, hwc⟩ : ∃ x, x = wc := ⟨_, rfl⟩
        rw [← hwc] at g1 oSS ⊢
        clear hwc x0 x1 x2 x3 x4 x5 x6 x7 x8 p0 HEn
        have HO7 : Hid (OwnL W7 w.heap.size (.slice ao cl.length cp) cl) := OwnL.grow HO6.out g1
        have HR7 : Hid (Rw N W7 (.slice (some ⟨R, 0, none⟩) K cr) K 60 V A S) := HR6.out.grow g1
        have HF7 : Hid (OwnN W7 bF (.slice (some ⟨TF, 0, none⟩) K K) K Fs) := HF6.out.grow g1
        have HJ7 : Hid (OwnN W7 bJ (.slice (some ⟨TJ, 0, none⟩) n n) n J) := HJ6.out.grow g1
        have HG7 : Hid (w.grownBy W7 none) := gtr HG6.out g1
        have HS7 : Hid (OwnL W7 W6.heap.size (.slice (some ⟨T', 0, none⟩) SS.length c') SS) := oSS
        have hs7 := HG7.out.size
        clear g1 oSS
        go_wp2_with (at_builtin; refine wp_appS2 rfl _ _ rfl w.heap.size (.slice ao cl.length cp) cl SS T' c' W6.heap.size rfl HO7.out rfl HS7.out hcl hSl hs7 ?_; intro v8 w8 ho8 hg8)
        exact ⟨⟨i + 1, by go_num, by (congr 1; rw [Lk.pos_succ]; omega), by omega, OwnL.cast ho8 HEq.out, HR7.out.keptL HO7.out hNw hg8, HF7.out.keptL HO7.out hg8, HJ7.out.keptL HO7.out hg8, grown_L HG7.out HO7.out (Nat.le_refl _) hg8⟩, by simp [intOf]; omega⟩
      ·rw [hc] at HIC
       have hc' : v.op = 23 := by simpa using hc
       rw [if_pos hc'] at hue
       have hlc := Lk.lab_call hlab hc'
       obtain ⟨Lb, hLb⟩ : ∃ Lb : Nat, v.label = (Lb : Int) := ⟨v.label.toNat, by omega⟩
       have hLK : Lb < K := by omega
       have hPl := HPi.out Lb hLK 0 (Nat.zero_le _)
       have e00 : Lk.pos (S Lb) 0 = 0 := rfl
       obtain ⟨x, hx⟩ : ∃ x, x = Fs Lb - (Fs k + Lk.pos (S k) i + S k i) := ⟨_, rfl⟩
       have hue2 : u = Lk.lead v x := by
        rw [hue, hx, hLb, Lk.pos_succ]
        simp only [Int.toNat_natCast]
        congr 1
        omega
       clear hue
       subst hue2
       have hwx : IntKind.i64.wrap (Fs Lb - (Fs k + Lk.pos (S k) i + S k i)) = x := by rw [hx, IntKind.wrap_i64]; omega
       have hnL : ¬ K ≤ Lb := by omega
       have cF0 := hA.cell (HFr.out.cell hLK) (by simp)
       have HLb : Hid (v.label = (Lb : Int)) := hLb
       clear hx e00 hPl hlc hlab hc hc' hLb hJi
       go_wp2_with (first | (go_at_call 46; refine (HIJ.out _).mono ?_; rintro e w2 ⟨rfl, hg2⟩; obtain ⟨z0, z1, z2, z3, z4, z5, z6, z7, z8, zz⟩ := IN.kept hg2 (by simp); clear zz) | (go_at_call 48; refine (HIC.out _).mono ?_; rintro e w3 ⟨rfl, hg3⟩))
       have INb := (IN.kept hg2 (by simp)).kept hg3 (by simp)
       have cF := hg3.cell (hg2.cell cF0 (by simp)) (by simp)
       have HGb : Hid (wr.grownBy w3 none) := gtr hA (gtr hg2 hg3)
       clear hA hg2 hg3 IN d0 d1 d2 d3 d4 d5 d6 d7 d8 c1A c3A csA c1r c3r csr cj cF0 z0 z1 z2 z3 z4 z5 z6 z7 z8
       obtain ⟨bx, hbx⟩ : ∃ bx, bx = wr.heap.size := ⟨_, rfl⟩
       rw [← hbx] at INb ⊢
       have hbw : wr.heap.size ≤ bx := Nat.le_of_eq hbx.symm
       clear hbx
       have y0 := INb.c0
       have y1 := INb.c1
       have y2 := INb.c2
       have y3 := INb.c3
       have y4 := INb.c4
       have y5 := INb.c5
       have y6 := INb.c6
       have y7 := INb.c7
       have y8 := INb.c8
       have y8b := INb.c8
       rw [HLb.out] at y8b
       refine region_src 9 (psiV [.agg #[.int .i64 v.op, .int .i64 v.a, .int .i64 v.b, .int .i64 v.c, .int .i64 v.k, .int .i64 v.sub, .int .i64 v.scale, .int .i64 v.imm, .int .i64 v.label], .slice (some ⟨TF, 0, none⟩) K K, .pointer (some ⟨bx, 8, none⟩), .int .i64 (Lb : Int), .pointer (some ⟨TF, Lb, none⟩), .int .i64 (Fs Lb), .int .i64 (Fs k + Lk.pos (S k) i + S k i), .int .i64 x, .agg #[.int .i64 v.op, .int .i64 v.a, .int .i64 v.b, .int .i64 v.c, .int .i64 v.k, .int .i64 v.sub, .int .i64 v.scale, .int .i64 x, .int .i64 0]]) (by kernel_rfl) (by kernel_rfl) (by kernel_rfl) (by kernel_rfl) (fun i x w0 w1 hi h g => h) ?_ ?_
       ·simp only [List.take_succ_cons, List.take_zero]
        refine ⟨?_, ?_, ?_, ?_, ?_, ?_, ?_, ?_, ?_, trivial⟩
        ·intro VV W0 AA g hV hs hz
         have gD : w3.grownBy W0 none := gdd g
         have e011 := hz 11 (.pointer (some ⟨bx, 0, none⟩)) (by kernel_rfl) rfl
         have x0 := gD.cell y0 (by simp)
         have x1 := gD.cell y1 (by simp)
         have x2 := gD.cell y2 (by simp)
         have x3 := gD.cell y3 (by simp)
         have x4 := gD.cell y4 (by simp)
         have x5 := gD.cell y5 (by simp)
         have x6 := gD.cell y6 (by simp)
         have x7 := gD.cell y7 (by simp)
         have x8 := gD.cell y8 (by simp)
         refine ov (v := .agg #[.int .i64 v.op, .int .i64 v.a, .int .i64 v.b, .int .i64 v.c, .int .i64 v.k, .int .i64 v.sub, .int .i64 v.scale, .int .i64 v.imm, .int .i64 v.label]) ?_ rfl
         simp [go_sem, e011, x0, x1, x2, x3, x4, x5, x6, x7, x8]
        ·intro VV W0 AA g hV hs hz
         have e01 := hz 1 (.slice (some ⟨TF, 0, none⟩) K K) (by kernel_rfl) rfl
         refine ov (v := .slice (some ⟨TF, 0, none⟩) K K) ?_ rfl
         simp [go_sem, e01]
        ·intro VV W0 AA g hV hs hz
         have e011 := hz 11 (.pointer (some ⟨bx, 0, none⟩)) (by kernel_rfl) rfl
         refine ov (v := .pointer (some ⟨bx, 8, none⟩)) ?_ rfl
         simp [go_sem, e011]
        ·intro VV W0 AA g hV hs hz
         have gD : w3.grownBy W0 none := gdd g
         have q2 := psiV_eq (hV 2 (by kernel_rfl)) rfl
         have e2 := hs 60 2 (by kernel_rfl) (by kernel_rfl)
         have x0 := gD.cell y8b (by simp)
         refine ov (v := .int .i64 (Lb : Int)) ?_ rfl
         simp [go_sem, q2, e2, x0]
        ·intro VV W0 AA g hV hs hz
         have q1 := psiV_eq (hV 1 (by kernel_rfl)) rfl
         have e1 := hs 59 1 (by kernel_rfl) (by kernel_rfl)
         have q3 := psiV_eq (hV 3 (by kernel_rfl)) rfl
         have e3 := hs 61 3 (by kernel_rfl) (by kernel_rfl)
         refine ov (v := .pointer (some ⟨TF, Lb, none⟩)) ?_ rfl
         simp [go_sem, q1, e1, q3, e3, hnL]
        ·intro VV W0 AA g hV hs hz
         have gD : w3.grownBy W0 none := gdd g
         have q4 := psiV_eq (hV 4 (by kernel_rfl)) rfl
         have e4 := hs 62 4 (by kernel_rfl) (by kernel_rfl)
         have x0 := gD.cell cF (by simp)
         refine ov (v := .int .i64 (Fs Lb)) ?_ rfl
         simp [go_sem, q4, e4, x0]
        ·intro VV W0 AA g hV hs hz
         have e09 := hz 9 (.int .i64 (Fs k + Lk.pos (S k) i + S k i)) (by kernel_rfl) rfl
         refine ov (v := .int .i64 (Fs k + Lk.pos (S k) i + S k i)) ?_ rfl
         simp [go_sem, e09]
        ·intro VV W0 AA g hV hs hz
         have q5 := psiV_eq (hV 5 (by kernel_rfl)) rfl
         have e5 := hs 63 5 (by kernel_rfl) (by kernel_rfl)
         have q6 := psiV_eq (hV 6 (by kernel_rfl)) rfl
         have e6 := hs 64 6 (by kernel_rfl) (by kernel_rfl)
         refine ov (v := .int .i64 x) ?_ rfl
         simp [go_sem, q5, e5, q6, e6, hwx]
        ·intro VV W0 AA g hV hs hz
         have q0 := psiV_eq (hV 0 (by kernel_rfl)) rfl
         have e0 := hs 58 0 (by kernel_rfl) (by kernel_rfl)
         have q7 := psiV_eq (hV 7 (by kernel_rfl)) rfl
         have e7 := hs 65 7 (by kernel_rfl) (by kernel_rfl)
         refine outO_call (f := 47) ?_ ((leading_any v x W0).mono fun e w2 ⟨he, hg⟩ => ⟨_, he, hg, rfl⟩)
         simp [go_sem, q0, e0, q7, e7]
       ·intro VV W0 g hV
        have gD : w3.grownBy W0 none := gdd g
        have h0 := psiV_eq (hV 0 (by decide)) rfl
        have h1 := psiV_eq (hV 1 (by decide)) rfl
        have h2 := psiV_eq (hV 2 (by decide)) rfl
        have h3 := psiV_eq (hV 3 (by decide)) rfl
        have h4 := psiV_eq (hV 4 (by decide)) rfl
        have h5 := psiV_eq (hV 5 (by decide)) rfl
        have h6 := psiV_eq (hV 6 (by decide)) rfl
        have h7 := psiV_eq (hV 7 (by decide)) rfl
        have h8 := psiV_eq (hV 8 (by decide)) rfl
        simp [frV, dstOf, Act.put, h0, h1, h2, h3, h4, h5, h6, h7, h8]
        clear h0 h1 h2 h3 h4 h5 h6 h7 h8 hV g
        have IN0 := INb.kept gD (by simp)
        have IN1 := IN0
        have HGp : Hid (wr.grownBy (put9 W0 bx (Lk.lead v x)) none) := grown_two (gtr HGb.out gD) (grown_put9 _ _ _) hbw
        clear gD
        obtain ⟨z0, z1, z2, z3, z4, z5, z6, z7, z8, zz⟩ := IN0
        have f0 := zz 0
        have f1 := zz 1
        have f2 := zz 2
        have f3 := zz 3
        have f4 := zz 4
        have f5 := zz 5
        have f6 := zz 6
        have f7 := zz 7
        have f8 := zz 8
        clear zz
        go_wp2_with fail
        change Code.wp _ _ _ _ (put9 W0 bx (Lk.lead v x))
        have IN6 := IN1.put9 (Lk.lead v x)
        clear z0 z1 z2 z3 z4 z5 z6 z7 z8 f0 f1 f2 f3 f4 f5 f6 f7 f8 IN1
        obtain ⟨W6, hW6⟩ : ∃ W6, W6 = put9 W0 bx (Lk.lead v x) := ⟨_, rfl⟩
        rw [← hW6] at HGp IN6 ⊢
        clear hW6
        obtain ⟨x0, x1, x2, x3, x4, x5, x6, x7, x8, xz⟩ := IN6
        simp only [Lk.lead] at x0 x1 x2 x3 x4 x5 x6 x7 x8
        clear xz
        have HO6 : Hid (OwnL W6 w.heap.size (.slice ao cl.length cp) cl) := OwnL.grow HO.out HGp.out
        have HR6 : Hid (Rw N W6 (.slice (some ⟨R, 0, none⟩) K cr) K 60 V A S) := HRr.out.grow HGp.out
        have HF6 : Hid (OwnN W6 bF (.slice (some ⟨TF, 0, none⟩) K K) K Fs) := HFr.out.grow HGp.out
        have HJ6 : Hid (OwnN W6 bJ (.slice (some ⟨TJ, 0, none⟩) n n) n J) := HJr.out.grow HGp.out
        have HG6 : Hid (w.grownBy W6 none) := gtr HG.out HGp.out
        clear HO HRr HFr HJr HG HGp
        obtain ⟨SS, hSS⟩ : ∃ SS, SS = Ru.encT 1 (Lk.lead v x) := ⟨_, rfl⟩
        rw [← hSS] at HEq hEl
        have HEn : Hid (∀ W, W6.grownBy W none → Calls Tryz.prog 60 #[.agg #[.int .i64 v.op, .int .i64 v.a, .int .i64 v.b, .int .i64 v.c, .int .i64 v.k, .int .i64 v.sub, .int .i64 v.scale, .int .i64 x, .int .i64 0]] W fun e w' => ∃ T' c', e = .returned (.tuple #[.slice (some ⟨T', 0, none⟩) SS.length c', .int .i64 0]) ∧ OwnL w' W.heap.size (.slice (some ⟨T', 0, none⟩) SS.length c') SS ∧ W.grownBy w' none) := fun W g => by rw [hSS]; exact enc_r (Lk.lead v x) W hurg hmay
        have hSl : SS.length ≤ 1000 := by rw [hSS]; have := (Ru.encT_len 1 (Lk.lead v x)).2; omega
        clear hSS
        have p0 := (HR6.out.pt k hkK).c0
        rw [← HBk.out] at p0
        go_cut [12, 13] (fun b e wx => ∃ T' c', b = .slice (some ⟨T', 0, none⟩) SS.length c' ∧ e = .int .i64 0 ∧ OwnL wx W6.heap.size (.slice (some ⟨T', 0, none⟩) SS.length c') SS ∧ W6.grownBy wx none)
        case first =>
         refine region_late 9 8 _ _ _ (psiE [.pointer (some ⟨Bk, 0, none⟩), .pointer (some ⟨Bk, 0, none⟩), .pointer (some ⟨Bk, 0, none⟩), .func (.func 60) #[] #[], .agg #[.int .i64 v.op, .int .i64 v.a, .int .i64 v.b, .int .i64 v.c, .int .i64 v.k, .int .i64 v.sub, .int .i64 v.scale, .int .i64 x, .int .i64 0]] W6.heap.size SS) (by kernel_rfl) (by kernel_rfl) rfl rfl rfl (by kernel_rfl) (by kernel_rfl) (fun i x w0 w1 hi h g => psiE_stable h g) ?_ ?_ ?_
         ·simp only [List.take_succ_cons, List.take_zero]
          refine ⟨?_, ?_, ?_, ?_, ?_, ?_, ?_, ?_, ?_, trivial⟩
          ·intro VV W0 AA g hV hs hz
           have gD : W6.grownBy W0 none := gdd g
           have e07 := hz 7 (.pointer (some ⟨Bk, 0, none⟩)) (by kernel_rfl) rfl
           clear hV hs hz
           refine outO_val (v := .pointer (some ⟨Bk, 0, none⟩)) (w' := W0) ?_ gr0 (psiE_mk (by simp) rfl)
           simp [go_sem, e07]
          ·intro VV W0 AA g hV hs hz
           have gD : W6.grownBy W0 none := gdd g
           have q0 : VV 0 = .pointer (some ⟨Bk, 0, none⟩) := psiE_f (hV 0 (by kernel_rfl)) (by simp)
           have e0 := hs 68 0 (by kernel_rfl) (by kernel_rfl)
           clear hV hs hz
           refine outO_val (v := .pointer (some ⟨Bk, 0, none⟩)) (w' := W0) ?_ gr0 (psiE_mk (by simp) rfl)
           simp [go_sem, q0, e0]
          ·intro VV W0 AA g hV hs hz
           have gD : W6.grownBy W0 none := gdd g
           have q1 : VV 1 = .pointer (some ⟨Bk, 0, none⟩) := psiE_f (hV 1 (by kernel_rfl)) (by simp)
           have e1 := hs 69 1 (by kernel_rfl) (by kernel_rfl)
           clear hV hs hz
           refine outO_val (v := .pointer (some ⟨Bk, 0, none⟩)) (w' := W0) ?_ gr0 (psiE_mk (by simp) rfl)
           simp [go_sem, q1, e1]
          ·intro VV W0 AA g hV hs hz
           have gD : W6.grownBy W0 none := gdd g
           have q2 : VV 2 = .pointer (some ⟨Bk, 0, none⟩) := psiE_f (hV 2 (by kernel_rfl)) (by simp)
           have e2 := hs 70 2 (by kernel_rfl) (by kernel_rfl)
           have x0 := gD.cell p0 (by simp)
           clear hV hs hz
           refine outO_val (v := .func (.func 60) #[] #[]) (w' := W0) ?_ gr0 (psiE_mk (by simp) rfl)
           simp [go_sem, q2, e2, x0]
          ·intro VV W0 AA g hV hs hz
           have gD : W6.grownBy W0 none := gdd g
           have e011 := hz 11 (.pointer (some ⟨bx, 0, none⟩)) (by kernel_rfl) rfl
           have x0 := gD.cell x0 (by simp)
           have x1 := gD.cell x1 (by simp)
           have x2 := gD.cell x2 (by simp)
           have x3 := gD.cell x3 (by simp)
           have x4 := gD.cell x4 (by simp)
           have x5 := gD.cell x5 (by simp)
           have x6 := gD.cell x6 (by simp)
           have x7 := gD.cell x7 (by simp)
           have x8 := gD.cell x8 (by simp)
           clear hV hs hz
           refine outO_val (v := .agg #[.int .i64 v.op, .int .i64 v.a, .int .i64 v.b, .int .i64 v.c, .int .i64 v.k, .int .i64 v.sub, .int .i64 v.scale, .int .i64 x, .int .i64 0]) (w' := W0) ?_ gr0 (psiE_mk (by simp) rfl)
           simp [go_sem, e011, x0, x1, x2, x3, x4, x5, x6, x7, x8]
          ·intro VV W0 AA g hV hs hz
           have gD : W6.grownBy W0 none := gdd g
           have q3 : VV 3 = .func (.func 60) #[] #[] := psiE_f (hV 3 (by kernel_rfl)) (by simp)
           have e3 := hs 71 3 (by kernel_rfl) (by kernel_rfl)
           have q4 : VV 4 = .agg #[.int .i64 v.op, .int .i64 v.a, .int .i64 v.b, .int .i64 v.c, .int .i64 v.k, .int .i64 v.sub, .int .i64 v.scale, .int .i64 x, .int .i64 0] := psiE_f (hV 4 (by kernel_rfl)) (by simp)
           have e4 := hs 72 4 (by kernel_rfl) (by kernel_rfl)
           clear hV hs hz
           refine outO_call (f := 60) ?_ (psi_call (by have := g.size; exact this) (by simp) (by simp) (HEn.out W0 gD))
           simp [go_sem, q3, e3, q4, e4]
          ·intro VV W0 AA g hV hs hz
           obtain ⟨T1, k1, h1, o1⟩ := psiE_t (hV 5 (by kernel_rfl)) (by simp) (by simp)
           have e1 := hs 73 5 (by kernel_rfl) (by kernel_rfl)
           clear hV hs hz
           refine outO_val (v := VV 5) (w' := W0) ?_ gr0 (psiE_mt (by simp) (by simp) ⟨T1, k1, h1, o1⟩)
           simp [go_sem, e1]
          ·intro VV W0 AA g hV hs hz
           obtain ⟨T1, k1, h1, o1⟩ := psiE_t (hV 6 (by kernel_rfl)) (by simp) (by simp)
           have e1 := hs 67 6 (by kernel_rfl) (by kernel_rfl)
           clear hV hs hz
           refine outO_val (v := .slice (some ⟨T1, 0, none⟩) SS.length k1) (w' := W0) ?_ gr0 (psiE_ms (by simp) ⟨T1, k1, rfl, o1⟩)
           simp [go_sem, e1, h1]
          ·intro VV W0 AA g hV hs hz
           obtain ⟨T1, k1, h1, o1⟩ := psiE_t (hV 6 (by kernel_rfl)) (by simp) (by simp)
           have e1 := hs 67 6 (by kernel_rfl) (by kernel_rfl)
           clear hV hs hz
           refine outO_val (v := .int .i64 0) (w' := W0) ?_ gr0 (psiE_me (by simp) rfl)
           simp [go_sem, e1, h1]
         ·intro VV W0 g hV
          have gD : W6.grownBy W0 none := gdd g
          have h0 : VV 0 = .pointer (some ⟨Bk, 0, none⟩) := psiE_f (hV 0 (by decide)) (by simp)
          have h1 : VV 1 = .pointer (some ⟨Bk, 0, none⟩) := psiE_f (hV 1 (by decide)) (by simp)
          have h2 : VV 2 = .pointer (some ⟨Bk, 0, none⟩) := psiE_f (hV 2 (by decide)) (by simp)
          have h3 : VV 3 = .func (.func 60) #[] #[] := psiE_f (hV 3 (by decide)) (by simp)
          have h4 : VV 4 = .agg #[.int .i64 v.op, .int .i64 v.a, .int .i64 v.b, .int .i64 v.c, .int .i64 v.k, .int .i64 v.sub, .int .i64 v.scale, .int .i64 x, .int .i64 0] := psiE_f (hV 4 (by decide)) (by simp)
          obtain ⟨T1, k1, h5, _⟩ := psiE_t (hV 5 (by decide)) (by simp) (by simp)
          obtain ⟨T2, k2, h6, _⟩ := psiE_t (hV 6 (by decide)) (by simp) (by simp)
          obtain ⟨T3, k3, h7, o3⟩ := psiE_s (hV 7 (by decide)) (by simp)
          have h8 := psiE_e (hV 8 (by decide)) (by simp)
          simp [frV, dstOf, Act.put, h0, h1, h2, h3, h4, h5, h6, h7, h8]
          clear h0 h1 h2 h3 h4 h5 h6 h7 h8 hV g
          have GR : Hid (W6.grownBy W0 none) := gD
          have O3 : Hid (OwnL W0 W6.heap.size (.slice (some ⟨T3, 0, none⟩) SS.length k3) SS) := o3
          clear gD o3
          go_wp2_with fail
          go_meet
          exact ⟨T3, k3, rfl, rfl, O3.out, GR.out⟩
         ·intro VV W0 g hV hold
          have gD : W6.grownBy W0 none := gdd g
          have h0 : VV 0 = .pointer (some ⟨Bk, 0, none⟩) := psiE_f (hV 0 (by decide) (by decide)) (by simp)
          have h1 : VV 1 = .pointer (some ⟨Bk, 0, none⟩) := psiE_f (hV 1 (by decide) (by decide)) (by simp)
          have h2 : VV 2 = .pointer (some ⟨Bk, 0, none⟩) := psiE_f (hV 2 (by decide) (by decide)) (by simp)
          have h3 : VV 3 = .func (.func 60) #[] #[] := psiE_f (hV 3 (by decide) (by decide)) (by simp)
          have h4 : VV 4 = .agg #[.int .i64 v.op, .int .i64 v.a, .int .i64 v.b, .int .i64 v.c, .int .i64 v.k, .int .i64 v.sub, .int .i64 v.scale, .int .i64 x, .int .i64 0] := psiE_f (hV 4 (by decide) (by decide)) (by simp)
          obtain ⟨T1, k1, h5, _⟩ := psiE_t (hV 5 (by decide) (by decide)) (by simp) (by simp)
          obtain ⟨T2, k2, h6, _⟩ := psiE_t (hV 6 (by decide) (by decide)) (by simp) (by simp)
          obtain ⟨T3, k3, h7, o3⟩ := psiE_s (hV 7 (by decide) (by decide)) (by simp)
          obtain ⟨y, h8⟩ : ∃ y, VV 8 = y := ⟨_, rfl⟩
          simp [frV, dstOf, Act.put, h0, h1, h2, h3, h4, h5, h6, h7, h8]
          clear h0 h1 h2 h3 h4 h5 h6 h7 h8 hV g hold
          have GR : Hid (W6.grownBy W0 none) := gD
          have O3 : Hid (OwnL W0 W6.heap.size (.slice (some ⟨T3, 0, none⟩) SS.length k3) SS) := o3
          clear gD o3
          go_wp2_with fail
          go_meet
          exact ⟨T3, k3, rfl, rfl, O3.out, GR.out⟩
        case rest =>
         obtain ⟨T', c', rfl, rfl, oSS, g1⟩ := hcut
         obtain ⟨W7, hwc⟩ : ∃ x, x = wc := ⟨_, rfl⟩
         rw [← hwc] at g1 oSS ⊢
         clear hwc x0 x1 x2 x3 x4 x5 x6 x7 x8 p0 HEn
         have HO7 : Hid (OwnL W7 w.heap.size (.slice ao cl.length cp) cl) := OwnL.grow HO6.out g1
         have HR7 : Hid (Rw N W7 (.slice (some ⟨R, 0, none⟩) K cr) K 60 V A S) := HR6.out.grow g1
         have HF7 : Hid (OwnN W7 bF (.slice (some ⟨TF, 0, none⟩) K K) K Fs) := HF6.out.grow g1
         have HJ7 : Hid (OwnN W7 bJ (.slice (some ⟨TJ, 0, none⟩) n n) n J) := HJ6.out.grow g1
         have HG7 : Hid (w.grownBy W7 none) := gtr HG6.out g1
         have HS7 : Hid (OwnL W7 W6.heap.size (.slice (some ⟨T', 0, none⟩) SS.length c') SS) := oSS
         have hs7 := HG7.out.size
         clear g1 oSS
         go_wp2_with (at_builtin; refine wp_appS2 rfl _ _ rfl w.heap.size (.slice ao cl.length cp) cl SS T' c' W6.heap.size rfl HO7.out rfl HS7.out hcl hSl hs7 ?_; intro v8 w8 ho8 hg8)
         exact ⟨⟨i + 1, by go_num, by (congr 1; rw [Lk.pos_succ]; omega), by omega, OwnL.cast ho8 HEq.out, HR7.out.keptL HO7.out hNw hg8, HF7.out.keptL HO7.out hg8, HJ7.out.keptL HO7.out hg8, grown_L HG7.out HO7.out (Nat.le_refl _) hg8⟩, by simp [intOf]; omega⟩
     ·rw [hj] at hue hJi HIJ
      simp only [if_true] at hue hJi
      rw [← hJi] at hue
      obtain ⟨x, hx⟩ : ∃ x, x = J i := ⟨_, rfl⟩
      rw [← hx] at hue cj
      clear hJi hx hlab
      subst hue
      have cjA := hA.cell cj (by simp)
      have hni : ¬ n ≤ i := by omega
      go_wp2_with (first | (go_at_call 46; refine (HIJ.out _).mono ?_; rintro e w2 ⟨rfl, hg2⟩))
      have INb := IN.kept hg2 (by simp)
      have cj2 := hg2.cell cjA (by simp)
      have HGb : Hid (wr.grownBy w2 none) := gtr hA hg2
      have hbw : wr.heap.size ≤ wr.heap.size := Nat.le_refl _
      clear hA hg2 IN d0 d1 d2 d3 d4 d5 d6 d7 d8 c1A c3A csA c1r c3r csr cj cjA
      obtain ⟨bx, hbx⟩ : ∃ bx, bx = wr.heap.size := ⟨_, rfl⟩
      rw [← hbx] at INb ⊢
      have hbw : wr.heap.size ≤ bx := Nat.le_of_eq hbx.symm
      clear hbx
      have y0 := INb.c0
      have y1 := INb.c1
      have y2 := INb.c2
      have y3 := INb.c3
      have y4 := INb.c4
      have y5 := INb.c5
      have y6 := INb.c6
      have y7 := INb.c7
      have y8 := INb.c8
      refine region_src 6 (psiV [.agg #[.int .i64 v.op, .int .i64 v.a, .int .i64 v.b, .int .i64 v.c, .int .i64 v.k, .int .i64 v.sub, .int .i64 v.scale, .int .i64 v.imm, .int .i64 v.label], .slice (some ⟨TJ, 0, none⟩) n n, .int .i64 (i : Int), .pointer (some ⟨TJ, i, none⟩), .int .i64 x, .agg #[.int .i64 v.op, .int .i64 v.a, .int .i64 v.b, .int .i64 v.c, .int .i64 v.k, .int .i64 v.sub, .int .i64 v.scale, .int .i64 x, .int .i64 0]]) (by kernel_rfl) (by kernel_rfl) (by kernel_rfl) (by kernel_rfl) (fun i x w0 w1 hi h g => h) ?_ ?_
      ·simp only [List.take_succ_cons, List.take_zero]
       refine ⟨?_, ?_, ?_, ?_, ?_, ?_, trivial⟩
       ·intro VV W0 AA g hV hs hz
        have gD : w2.grownBy W0 none := gdd g
        have e011 := hz 11 (.pointer (some ⟨bx, 0, none⟩)) (by kernel_rfl) rfl
        have x0 := gD.cell y0 (by simp)
        have x1 := gD.cell y1 (by simp)
        have x2 := gD.cell y2 (by simp)
        have x3 := gD.cell y3 (by simp)
        have x4 := gD.cell y4 (by simp)
        have x5 := gD.cell y5 (by simp)
        have x6 := gD.cell y6 (by simp)
        have x7 := gD.cell y7 (by simp)
        have x8 := gD.cell y8 (by simp)
        refine ov (v := .agg #[.int .i64 v.op, .int .i64 v.a, .int .i64 v.b, .int .i64 v.c, .int .i64 v.k, .int .i64 v.sub, .int .i64 v.scale, .int .i64 v.imm, .int .i64 v.label]) ?_ rfl
        simp [go_sem, e011, x0, x1, x2, x3, x4, x5, x6, x7, x8]
       ·intro VV W0 AA g hV hs hz
        have e08 := hz 8 (.slice (some ⟨TJ, 0, none⟩) n n) (by kernel_rfl) rfl
        refine ov (v := .slice (some ⟨TJ, 0, none⟩) n n) ?_ rfl
        simp [go_sem, e08]
       ·intro VV W0 AA g hV hs hz
        have e010 := hz 10 (.int .i64 (i : Int)) (by kernel_rfl) rfl
        refine ov (v := .int .i64 (i : Int)) ?_ rfl
        simp [go_sem, e010]
       ·intro VV W0 AA g hV hs hz
        have q1 := psiV_eq (hV 1 (by kernel_rfl)) rfl
        have e1 := hs 50 1 (by kernel_rfl) (by kernel_rfl)
        have q2 := psiV_eq (hV 2 (by kernel_rfl)) rfl
        have e2 := hs 51 2 (by kernel_rfl) (by kernel_rfl)
        refine ov (v := .pointer (some ⟨TJ, i, none⟩)) ?_ rfl
        simp [go_sem, q1, e1, q2, e2, hni]
       ·intro VV W0 AA g hV hs hz
        have gD : w2.grownBy W0 none := gdd g
        have q3 := psiV_eq (hV 3 (by kernel_rfl)) rfl
        have e3 := hs 52 3 (by kernel_rfl) (by kernel_rfl)
        have x0 := gD.cell cj2 (by simp)
        refine ov (v := .int .i64 x) ?_ rfl
        simp [go_sem, q3, e3, x0]
       ·intro VV W0 AA g hV hs hz
        have q0 := psiV_eq (hV 0 (by kernel_rfl)) rfl
        have e0 := hs 49 0 (by kernel_rfl) (by kernel_rfl)
        have q4 := psiV_eq (hV 4 (by kernel_rfl)) rfl
        have e4 := hs 53 4 (by kernel_rfl) (by kernel_rfl)
        refine outO_call (f := 47) ?_ ((leading_any v x W0).mono fun e w2 ⟨he, hg⟩ => ⟨_, he, hg, rfl⟩)
        simp [go_sem, q0, e0, q4, e4]
      ·intro VV W0 g hV
       have gD : w2.grownBy W0 none := gdd g
       have h0 := psiV_eq (hV 0 (by decide)) rfl
       have h1 := psiV_eq (hV 1 (by decide)) rfl
       have h2 := psiV_eq (hV 2 (by decide)) rfl
       have h3 := psiV_eq (hV 3 (by decide)) rfl
       have h4 := psiV_eq (hV 4 (by decide)) rfl
       have h5 := psiV_eq (hV 5 (by decide)) rfl
       simp [frV, dstOf, Act.put, h0, h1, h2, h3, h4, h5]
       clear h0 h1 h2 h3 h4 h5 hV g
       have IN0 := INb.kept gD (by simp)
       have IN1 := IN0
       have HGp : Hid (wr.grownBy (put9 W0 bx (Lk.lead v x)) none) := grown_two (gtr HGb.out gD) (grown_put9 _ _ _) hbw
       clear gD
       obtain ⟨z0, z1, z2, z3, z4, z5, z6, z7, z8, zz⟩ := IN0
       have f0 := zz 0
       have f1 := zz 1
       have f2 := zz 2
       have f3 := zz 3
       have f4 := zz 4
       have f5 := zz 5
       have f6 := zz 6
       have f7 := zz 7
       have f8 := zz 8
       clear zz
       go_wp2_with fail
       change Code.wp _ _ _ _ (put9 W0 bx (Lk.lead v x))
       have IN6 := IN1.put9 (Lk.lead v x)
       clear z0 z1 z2 z3 z4 z5 z6 z7 z8 f0 f1 f2 f3 f4 f5 f6 f7 f8 IN1
       obtain ⟨W6, hW6⟩ : ∃ W6, W6 = put9 W0 bx (Lk.lead v x) := ⟨_, rfl⟩
       rw [← hW6] at HGp IN6 ⊢
       clear hW6
       obtain ⟨x0, x1, x2, x3, x4, x5, x6, x7, x8, xz⟩ := IN6
       simp only [Lk.lead] at x0 x1 x2 x3 x4 x5 x6 x7 x8
       clear xz
       have HO6 : Hid (OwnL W6 w.heap.size (.slice ao cl.length cp) cl) := OwnL.grow HO.out HGp.out
       have HR6 : Hid (Rw N W6 (.slice (some ⟨R, 0, none⟩) K cr) K 60 V A S) := HRr.out.grow HGp.out
       have HF6 : Hid (OwnN W6 bF (.slice (some ⟨TF, 0, none⟩) K K) K Fs) := HFr.out.grow HGp.out
       have HJ6 : Hid (OwnN W6 bJ (.slice (some ⟨TJ, 0, none⟩) n n) n J) := HJr.out.grow HGp.out
       have HG6 : Hid (w.grownBy W6 none) := gtr HG.out HGp.out
       clear HO HRr HFr HJr HG HGp
       obtain ⟨SS, hSS⟩ : ∃ SS, SS = Ru.encT 1 (Lk.lead v x) := ⟨_, rfl⟩
       rw [← hSS] at HEq hEl
       have HEn : Hid (∀ W, W6.grownBy W none → Calls Tryz.prog 60 #[.agg #[.int .i64 v.op, .int .i64 v.a, .int .i64 v.b, .int .i64 v.c, .int .i64 v.k, .int .i64 v.sub, .int .i64 v.scale, .int .i64 x, .int .i64 0]] W fun e w' => ∃ T' c', e = .returned (.tuple #[.slice (some ⟨T', 0, none⟩) SS.length c', .int .i64 0]) ∧ OwnL w' W.heap.size (.slice (some ⟨T', 0, none⟩) SS.length c') SS ∧ W.grownBy w' none) := fun W g => by rw [hSS]; exact enc_r (Lk.lead v x) W hurg hmay
       have hSl : SS.length ≤ 1000 := by rw [hSS]; have := (Ru.encT_len 1 (Lk.lead v x)).2; omega
       clear hSS
       have p0 := (HR6.out.pt k hkK).c0
       rw [← HBk.out] at p0
       go_cut [12, 13] (fun b e wx => ∃ T' c', b = .slice (some ⟨T', 0, none⟩) SS.length c' ∧ e = .int .i64 0 ∧ OwnL wx W6.heap.size (.slice (some ⟨T', 0, none⟩) SS.length c') SS ∧ W6.grownBy wx none)
       case first =>
        refine region_late 9 8 _ _ _ (psiE [.pointer (some ⟨Bk, 0, none⟩), .pointer (some ⟨Bk, 0, none⟩), .pointer (some ⟨Bk, 0, none⟩), .func (.func 60) #[] #[], .agg #[.int .i64 v.op, .int .i64 v.a, .int .i64 v.b, .int .i64 v.c, .int .i64 v.k, .int .i64 v.sub, .int .i64 v.scale, .int .i64 x, .int .i64 0]] W6.heap.size SS) (by kernel_rfl) (by kernel_rfl) rfl rfl rfl (by kernel_rfl) (by kernel_rfl) (fun i x w0 w1 hi h g => psiE_stable h g) ?_ ?_ ?_
        ·simp only [List.take_succ_cons, List.take_zero]
         refine ⟨?_, ?_, ?_, ?_, ?_, ?_, ?_, ?_, ?_, trivial⟩
         ·intro VV W0 AA g hV hs hz
          have gD : W6.grownBy W0 none := gdd g
          have e07 := hz 7 (.pointer (some ⟨Bk, 0, none⟩)) (by kernel_rfl) rfl
          clear hV hs hz
          refine outO_val (v := .pointer (some ⟨Bk, 0, none⟩)) (w' := W0) ?_ gr0 (psiE_mk (by simp) rfl)
          simp [go_sem, e07]
         ·intro VV W0 AA g hV hs hz
          have gD : W6.grownBy W0 none := gdd g
          have q0 : VV 0 = .pointer (some ⟨Bk, 0, none⟩) := psiE_f (hV 0 (by kernel_rfl)) (by simp)
          have e0 := hs 68 0 (by kernel_rfl) (by kernel_rfl)
          clear hV hs hz
          refine outO_val (v := .pointer (some ⟨Bk, 0, none⟩)) (w' := W0) ?_ gr0 (psiE_mk (by simp) rfl)
          simp [go_sem, q0, e0]
         ·intro VV W0 AA g hV hs hz
          have gD : W6.grownBy W0 none := gdd g
          have q1 : VV 1 = .pointer (some ⟨Bk, 0, none⟩) := psiE_f (hV 1 (by kernel_rfl)) (by simp)
          have e1 := hs 69 1 (by kernel_rfl) (by kernel_rfl)
          clear hV hs hz
          refine outO_val (v := .pointer (some ⟨Bk, 0, none⟩)) (w' := W0) ?_ gr0 (psiE_mk (by simp) rfl)
          simp [go_sem, q1, e1]
         ·intro VV W0 AA g hV hs hz
          have gD : W6.grownBy W0 none := gdd g
          have q2 : VV 2 = .pointer (some ⟨Bk, 0, none⟩) := psiE_f (hV 2 (by kernel_rfl)) (by simp)
          have e2 := hs 70 2 (by kernel_rfl) (by kernel_rfl)
          have x0 := gD.cell p0 (by simp)
          clear hV hs hz
          refine outO_val (v := .func (.func 60) #[] #[]) (w' := W0) ?_ gr0 (psiE_mk (by simp) rfl)
          simp [go_sem, q2, e2, x0]
         ·intro VV W0 AA g hV hs hz
          have gD : W6.grownBy W0 none := gdd g
          have e011 := hz 11 (.pointer (some ⟨bx, 0, none⟩)) (by kernel_rfl) rfl
          have x0 := gD.cell x0 (by simp)
          have x1 := gD.cell x1 (by simp)
          have x2 := gD.cell x2 (by simp)
          have x3 := gD.cell x3 (by simp)
          have x4 := gD.cell x4 (by simp)
          have x5 := gD.cell x5 (by simp)
          have x6 := gD.cell x6 (by simp)
          have x7 := gD.cell x7 (by simp)
          have x8 := gD.cell x8 (by simp)
          clear hV hs hz
          refine outO_val (v := .agg #[.int .i64 v.op, .int .i64 v.a, .int .i64 v.b, .int .i64 v.c, .int .i64 v.k, .int .i64 v.sub, .int .i64 v.scale, .int .i64 x, .int .i64 0]) (w' := W0) ?_ gr0 (psiE_mk (by simp) rfl)
          simp [go_sem, e011, x0, x1, x2, x3, x4, x5, x6, x7, x8]
         ·intro VV W0 AA g hV hs hz
          have gD : W6.grownBy W0 none := gdd g
          have q3 : VV 3 = .func (.func 60) #[] #[] := psiE_f (hV 3 (by kernel_rfl)) (by simp)
          have e3 := hs 71 3 (by kernel_rfl) (by kernel_rfl)
          have q4 : VV 4 = .agg #[.int .i64 v.op, .int .i64 v.a, .int .i64 v.b, .int .i64 v.c, .int .i64 v.k, .int .i64 v.sub, .int .i64 v.scale, .int .i64 x, .int .i64 0] := psiE_f (hV 4 (by kernel_rfl)) (by simp)
          have e4 := hs 72 4 (by kernel_rfl) (by kernel_rfl)
          clear hV hs hz
          refine outO_call (f := 60) ?_ (psi_call (by have := g.size; exact this) (by simp) (by simp) (HEn.out W0 gD))
          simp [go_sem, q3, e3, q4, e4]
         ·intro VV W0 AA g hV hs hz
          obtain ⟨T1, k1, h1, o1⟩ := psiE_t (hV 5 (by kernel_rfl)) (by simp) (by simp)
          have e1 := hs 73 5 (by kernel_rfl) (by kernel_rfl)
          clear hV hs hz
          refine outO_val (v := VV 5) (w' := W0) ?_ gr0 (psiE_mt (by simp) (by simp) ⟨T1, k1, h1, o1⟩)
          simp [go_sem, e1]
         ·intro VV W0 AA g hV hs hz
          obtain ⟨T1, k1, h1, o1⟩ := psiE_t (hV 6 (by kernel_rfl)) (by simp) (by simp)
          have e1 := hs 67 6 (by kernel_rfl) (by kernel_rfl)
          clear hV hs hz
          refine outO_val (v := .slice (some ⟨T1, 0, none⟩) SS.length k1) (w' := W0) ?_ gr0 (psiE_ms (by simp) ⟨T1, k1, rfl, o1⟩)
          simp [go_sem, e1, h1]
         ·intro VV W0 AA g hV hs hz
          obtain ⟨T1, k1, h1, o1⟩ := psiE_t (hV 6 (by kernel_rfl)) (by simp) (by simp)
          have e1 := hs 67 6 (by kernel_rfl) (by kernel_rfl)
          clear hV hs hz
          refine outO_val (v := .int .i64 0) (w' := W0) ?_ gr0 (psiE_me (by simp) rfl)
          simp [go_sem, e1, h1]
        ·intro VV W0 g hV
         have gD : W6.grownBy W0 none := gdd g
         have h0 : VV 0 = .pointer (some ⟨Bk, 0, none⟩) := psiE_f (hV 0 (by decide)) (by simp)
         have h1 : VV 1 = .pointer (some ⟨Bk, 0, none⟩) := psiE_f (hV 1 (by decide)) (by simp)
         have h2 : VV 2 = .pointer (some ⟨Bk, 0, none⟩) := psiE_f (hV 2 (by decide)) (by simp)
         have h3 : VV 3 = .func (.func 60) #[] #[] := psiE_f (hV 3 (by decide)) (by simp)
         have h4 : VV 4 = .agg #[.int .i64 v.op, .int .i64 v.a, .int .i64 v.b, .int .i64 v.c, .int .i64 v.k, .int .i64 v.sub, .int .i64 v.scale, .int .i64 x, .int .i64 0] := psiE_f (hV 4 (by decide)) (by simp)
         obtain ⟨T1, k1, h5, _⟩ := psiE_t (hV 5 (by decide)) (by simp) (by simp)
         obtain ⟨T2, k2, h6, _⟩ := psiE_t (hV 6 (by decide)) (by simp) (by simp)
         obtain ⟨T3, k3, h7, o3⟩ := psiE_s (hV 7 (by decide)) (by simp)
         have h8 := psiE_e (hV 8 (by decide)) (by simp)
         simp [frV, dstOf, Act.put, h0, h1, h2, h3, h4, h5, h6, h7, h8]
         clear h0 h1 h2 h3 h4 h5 h6 h7 h8 hV g
         have GR : Hid (W6.grownBy W0 none) := gD
         have O3 : Hid (OwnL W0 W6.heap.size (.slice (some ⟨T3, 0, none⟩) SS.length k3) SS) := o3
         clear gD o3
         go_wp2_with fail
         go_meet
         exact ⟨T3, k3, rfl, rfl, O3.out, GR.out⟩
        ·intro VV W0 g hV hold
         have gD : W6.grownBy W0 none := gdd g
         have h0 : VV 0 = .pointer (some ⟨Bk, 0, none⟩) := psiE_f (hV 0 (by decide) (by decide)) (by simp)
         have h1 : VV 1 = .pointer (some ⟨Bk, 0, none⟩) := psiE_f (hV 1 (by decide) (by decide)) (by simp)
         have h2 : VV 2 = .pointer (some ⟨Bk, 0, none⟩) := psiE_f (hV 2 (by decide) (by decide)) (by simp)
         have h3 : VV 3 = .func (.func 60) #[] #[] := psiE_f (hV 3 (by decide) (by decide)) (by simp)
         have h4 : VV 4 = .agg #[.int .i64 v.op, .int .i64 v.a, .int .i64 v.b, .int .i64 v.c, .int .i64 v.k, .int .i64 v.sub, .int .i64 v.scale, .int .i64 x, .int .i64 0] := psiE_f (hV 4 (by decide) (by decide)) (by simp)
         obtain ⟨T1, k1, h5, _⟩ := psiE_t (hV 5 (by decide) (by decide)) (by simp) (by simp)
         obtain ⟨T2, k2, h6, _⟩ := psiE_t (hV 6 (by decide) (by decide)) (by simp) (by simp)
         obtain ⟨T3, k3, h7, o3⟩ := psiE_s (hV 7 (by decide) (by decide)) (by simp)
         obtain ⟨y, h8⟩ : ∃ y, VV 8 = y := ⟨_, rfl⟩
         simp [frV, dstOf, Act.put, h0, h1, h2, h3, h4, h5, h6, h7, h8]
         clear h0 h1 h2 h3 h4 h5 h6 h7 h8 hV g hold
         have GR : Hid (W6.grownBy W0 none) := gD
         have O3 : Hid (OwnL W0 W6.heap.size (.slice (some ⟨T3, 0, none⟩) SS.length k3) SS) := o3
         clear gD o3
         go_wp2_with fail
         go_meet
         exact ⟨T3, k3, rfl, rfl, O3.out, GR.out⟩
       case rest =>
        obtain ⟨T', c', rfl, rfl, oSS, g1⟩ := hcut
        obtain ⟨W7, hwc⟩ : ∃ x, x = wc := ⟨_, rfl⟩
        rw [← hwc] at g1 oSS ⊢
        clear hwc x0 x1 x2 x3 x4 x5 x6 x7 x8 p0 HEn
        have HO7 : Hid (OwnL W7 w.heap.size (.slice ao cl.length cp) cl) := OwnL.grow HO6.out g1
        have HR7 : Hid (Rw N W7 (.slice (some ⟨R, 0, none⟩) K cr) K 60 V A S) := HR6.out.grow g1
        have HF7 : Hid (OwnN W7 bF (.slice (some ⟨TF, 0, none⟩) K K) K Fs) := HF6.out.grow g1
        have HJ7 : Hid (OwnN W7 bJ (.slice (some ⟨TJ, 0, none⟩) n n) n J) := HJ6.out.grow g1
        have HG7 : Hid (w.grownBy W7 none) := gtr HG6.out g1
        have HS7 : Hid (OwnL W7 W6.heap.size (.slice (some ⟨T', 0, none⟩) SS.length c') SS) := oSS
        have hs7 := HG7.out.size
        clear g1 oSS
        go_wp2_with (at_builtin; refine wp_appS2 rfl _ _ rfl w.heap.size (.slice ao cl.length cp) cl SS T' c' W6.heap.size rfl HO7.out rfl HS7.out hcl hSl hs7 ?_; intro v8 w8 ho8 hg8)
        exact ⟨⟨i + 1, by go_num, by (congr 1; rw [Lk.pos_succ]; omega), by omega, OwnL.cast ho8 HEq.out, HR7.out.keptL HO7.out hNw hg8, HF7.out.keptL HO7.out hg8, HJ7.out.keptL HO7.out hg8, grown_L HG7.out HO7.out (Nat.le_refl _) hg8⟩, by simp [intOf]; omega⟩
    ·obtain rfl : i = n := by omega
     go_wp2
     go_roundw
     case rel => exact ⟨k + 1, by go_num, by omega, OwnL.cast HO.out (by rw [HCl.out, HNn.out]; rfl), HRr.out, HFr.out, HG.out⟩
     case measure => simp [intOf]; omega
  ·obtain rfl : k = K := by omega
   go_wp2
   go_ret
   exact ⟨_, rfl, HOc.out, HGo.out⟩
theorem code_c {N : Nat} {w : World} {rv : Value} {K : Nat} {V : Nat → Lk.PcV} {A : Nat → PtA} {Ls : Nat → Nat → Bool} {TF bF : Nat} (h : Rw N w rv K 61 V A (Lk.SS 2 V Ls)) (hF : OwnN w bF (.slice (some ⟨TF, 0, none⟩) K K) K (Lk.pos (ends V (Lk.SS 2 V Ls)))) (hL : Lk.Lkd 2 K V Ls) (hTab : TabAt w) (hTN : 2 < N) (hNw : N ≤ w.heap.size) (hK : K ≤ 33) :
  Calls Tryz.prog 24 #[rv, .slice (some ⟨TF, 0, none⟩) K K] w fun e w' => ∃ v, e = .returned v ∧ OwnL w' w.heap.size v (Lk.codeA 2 V (Lk.SS 2 V Ls) K) ∧ w.grownBy w' none := by
 have hK' : (K : Int) ≤ 33 := by omega
 have HTw : Hid (∀ W, w.grownBy W none → TabAt W) := fun W g => hTab.kept g (by simp)
 have HL : Hid (Lk.Lkd 2 K V Ls) := hL
 obtain ⟨S, hS⟩ : ∃ S, S = Lk.SS 2 V Ls := ⟨_, rfl⟩
 have HLn : Hid (∀ k, k < K → (V k).n ≤ 1048576) := fun k hk => hL.n_le hk
 have HPi : Hid (∀ k, k < K → ∀ i, i ≤ (V k).n → 0 ≤ Lk.pos (S k) i ∧ Lk.pos (ends V S) k + Lk.pos (S k) i ≤ 1048576 ∧ 0 ≤ Lk.pos (ends V S) k) := fun k hk i hi => by rw [hS]; exact hL.pos_in hk hi
 have HFi : Hid (∀ k, k < K → ∀ i, i < (V k).n → Ru.mayT 2 (Lk.fin 2 V S k i) = true ∧ InRng (Lk.fin 2 V S k i) ∧ ((Ru.encT 2 (Lk.fin 2 V S k i)).length : Int) = S k i) := fun k hk i hi => by rw [hS]; exact hL.fin hk hi
 have HLA : Hid (∀ k, k ≤ K → ((Lk.codeA 2 V S k).length : Int) = Lk.pos (ends V S) k) := fun k hk => by rw [hS]; exact hL.lenA hk
 have HLP : Hid (∀ k, k < K → ∀ i, i ≤ (V k).n → ((Lk.codeP 2 V S k i).length : Int) = Lk.pos (S k) i) := fun k hk i hi => by rw [hS]; exact hL.lenP hk hi
 have HIm : Hid (∀ W k, k < K → Rw N W rv K 61 V A S → Calls Tryz.prog 41 #[.pointer (some ⟨(A k).B, 0, none⟩)] W fun e w' => ∃ T, e = .returned (.slice (some ⟨T, 0, none⟩) (V k).n (V k).n) ∧ OwnN w' W.heap.size (.slice (some ⟨T, 0, none⟩) (V k).n (V k).n) (V k).n (Lk.immJ (V k) 2 (S k)) ∧ W.grownBy w' none) := fun W k hk hW => by
  have hn := hL.n_le hk
  refine pimms_any (hW.pt k hk) (hW.sz k hk) (hL.ok k hk) (by omega) (fun i hi => ?_)
  have := Lk.size_le (hL.ok k hk) (Ls k) hi
  rw [hS]
  show 0 ≤ ((V k).sh 2).size (Ls k) i ∧ ((V k).sh 2).size (Ls k) i ≤ 40
  omega
 have HOk : Hid (∀ k, k < K → ∀ i, i < (V k).n → Lk.labB (V k).m K ((V k).I i) = true) := fun k hk i hi => ((hL.ok k hk).may hi).1
 rw [← hS] at h hF ⊢
 have HR : Hid (Rw N w rv K 61 V A S) := h
 have HF0 : Hid (OwnN w bF (.slice (some ⟨TF, 0, none⟩) K K) K (Lk.pos (ends V S))) := hF
 obtain ⟨Fs, hFs⟩ : ∃ Fs, Fs = Lk.pos (ends V S) := ⟨_, rfl⟩
 rw [← hFs] at HPi HLA HF0
 have HFin : Hid (∀ k i, Lk.fin 2 V S k i = if Lk.jmpB ((V k).I i).op then Lk.lead ((V k).I i) (Lk.immS (V k) 2 (S k) i) else if ((V k).I i).op = 23 then Lk.lead ((V k).I i) (Fs ((V k).I i).label.toNat - (Fs k + Lk.pos (S k) (i + 1))) else (V k).I i) := fun k i => by rw [hFs]; rfl
 have HJd : Hid (∀ k i, Lk.immJ (V k) 2 (S k) i = if Lk.jmpB ((V k).I i).op then Lk.immS (V k) 2 (S k) i else 0) := fun k i => rfl
 clear h hF hTab hS hFs hL
 obtain ⟨ar, cr, rfl, _, _, har⟩ := HR.out.slice
 have HAr : Hid (0 < K → ∃ R, ar = some ⟨R, 0, none⟩) := fun h0 => by obtain ⟨R, e, _⟩ := har h0; exact ⟨R, e⟩
 clear har
 go_enter Tryz.func24, Tryz.ntmps24
 go_wp2_with fail
 go_loopw [5, 16] (fun c i wr => ∃ k : Nat, i = .int .i64 k ∧ k ≤ K ∧ OwnL wr w.heap.size c (Lk.codeA 2 V S k) ∧ Rw N wr (.slice ar K cr) K 61 V A S ∧ OwnN wr bF (.slice (some ⟨TF, 0, none⟩) K K) K Fs ∧ w.grownBy wr none) (fun _ i _ => K - (intOf i).toNat)
 case atStart => exact ⟨0, rfl, Nat.zero_le _, World.ownsRow_nil _ _ _ _, HR.out, HF0.out, gr0⟩
 case round =>
  obtain ⟨al, hal⟩ : ∃ al, al = u5 := ⟨_, rfl⟩
  obtain ⟨k, rfl, hk, hoc, hrw, hof, hg⟩ := hrel
  rw [← hal] at hoc ⊢
  clear hal
  obtain ⟨wo, rfl⟩ : ∃ wo, wo = wr := ⟨wr, rfl⟩
  have HOc : Hid (OwnL wo w.heap.size al (Lk.codeA 2 V S k)) := hoc
  have HRo : Hid (Rw N wo (.slice ar K cr) K 61 V A S) := hrw
  have HFo : Hid (OwnN wo bF (.slice (some ⟨TF, 0, none⟩) K K) K Fs) := hof
  have HGo : Hid (w.grownBy wo none) := hg
  clear hoc hrw hof hg
  by_cases hkK : k < K
  ·have hkK' : (k : Int) < K := by omega
   obtain ⟨R, rfl⟩ := HAr.out (by omega)
   have ck : wo.cell? ⟨R, k, none⟩ = some (.pointer (some ⟨(A k).B, 0, none⟩)) := by
    obtain ⟨a', c', e, _, _, hh⟩ := HRo.out.slice
    simp at e
    obtain ⟨rfl, rfl⟩ := e
    obtain ⟨R', e', hc'⟩ := hh (by omega)
    simp at e'
    subst e'
    exact hc' k hkK
   have cf := HFo.out.cell hkK
   have HIk := HIm.out wo k hkK HRo.out
   obtain ⟨n, hnn⟩ : ∃ n, n = (V k).n := ⟨_, rfl⟩
   have HNn : Hid (n = (V k).n) := hnn
   have hn := HLn.out k hkK
   rw [← hnn] at HIk hn
   obtain ⟨J, hJ⟩ : ∃ J, J = Lk.immJ (V k) 2 (S k) := ⟨_, rfl⟩
   have HJe : Hid (J = Lk.immJ (V k) 2 (S k)) := hJ
   rw [← hJ] at HIk
   have HIk2 : Hid (Calls Tryz.prog 41 #[.pointer (some ⟨(A k).B, 0, none⟩)] wo fun e w' => ∃ T, e = .returned (.slice (some ⟨T, 0, none⟩) n n) ∧ OwnN w' wo.heap.size (.slice (some ⟨T, 0, none⟩) n n) n J ∧ wo.grownBy w' none) := HIk
   clear hnn hJ HIk
   have hn' : (n : Int) ≤ 1048576 := by omega
   obtain ⟨ia, hia⟩ : ∃ ia, ia = (A k).ia := ⟨_, rfl⟩
   obtain ⟨ic, hic⟩ : ∃ ic, ic = (A k).ic := ⟨_, rfl⟩
   have HC1 : Hid (∀ W, Rw N W (.slice (some ⟨R, 0, none⟩) K cr) K 61 V A S → W.cell? ⟨(A k).B, 1, none⟩ = some (.slice ia n ic) ∧ W.cell? ⟨(A k).B, 3, none⟩ = some (.slice (some ⟨(A k).T, 0, none⟩) n n) ∧ InsIn N W ia n ic (V k).I) := fun W hW => by
    rw [hia, hic, HNn.out]
    exact ⟨(hW.pt k hkK).c1, (hW.pt k hkK).c3, (hW.pt k hkK).ins⟩
   have HC3 : Hid (∀ W, Rw N W (.slice (some ⟨R, 0, none⟩) K cr) K 61 V A S → ∀ i, i < n → W.cell? ⟨(A k).T, i, none⟩ = some (.int .i64 (S k i))) := fun W hW i hi => (hW.sz k hkK).cell (by rw [← HNn.out]; exact hi)
   clear hia hic
   have c1o := (HC1.out wo HRo.out).1
   go_wp2_with (go_at_call 41; refine HIk2.out.mono ?_; rintro e w1 ⟨TJ, rfl, ho1, hg1⟩; have HJ1 : Hid (OwnN w1 wo.heap.size (.slice (some ⟨TJ, 0, none⟩) n n) n J) := ho1; have HG1 : Hid (wo.grownBy w1 none) := hg1; have cf1 := hg1.cell cf (by simp); have c11 := hg1.cell c1o (by simp); clear ho1 hg1)
   have HO1 : Hid (OwnL w1 w.heap.size al (Lk.codeA 2 V S k)) := OwnL.grow HOc.out HG1.out
   have HR1 : Hid (Rw N w1 (.slice (some ⟨R, 0, none⟩) K cr) K 61 V A S) := HRo.out.grow HG1.out
   have HF1 : Hid (OwnN w1 bF (.slice (some ⟨TF, 0, none⟩) K K) K Fs) := HFo.out.grow HG1.out
   have HGw1 : Hid (w.grownBy w1 none) := gtr HGo.out HG1.out
   obtain ⟨bJ, hbJ⟩ : ∃ bJ, bJ = wo.heap.size := ⟨_, rfl⟩
   rw [← hbJ] at HJ1
   clear HIk2 ck cf cf1 c11 c1o hbJ HOc HRo HFo HGo HG1
   obtain ⟨Bk, hBk⟩ : ∃ Bk, Bk = (A k).B := ⟨_, rfl⟩
   obtain ⟨Tk, hTk⟩ : ∃ Tk, Tk = (A k).T := ⟨_, rfl⟩
   rw [← hBk, ← hTk] at HC1
   rw [← hTk] at HC3
   rw [← hBk]
   have HBk : Hid (Bk = (A k).B) := hBk
   clear hBk hTk
   go_loopw [5, 9, 32] (fun c at' i wr => ∃ i0 : Nat, i = .int .i64 i0 ∧ at' = .int .i64 (Fs k + Lk.pos (S k) i0) ∧ i0 ≤ n ∧ OwnL wr w.heap.size c (Lk.codeA 2 V S k ++ Lk.codeP 2 V S k i0) ∧ Rw N wr (.slice (some ⟨R, 0, none⟩) K cr) K 61 V A S ∧ OwnN wr bF (.slice (some ⟨TF, 0, none⟩) K K) K Fs ∧ OwnN wr bJ (.slice (some ⟨TJ, 0, none⟩) n n) n J ∧ w.grownBy wr none) (fun _ _ i _ => n - (intOf i).toNat)
   case atStart => exact ⟨0, rfl, by (congr 1; show Fs k = Fs k + 0; omega), Nat.zero_le _, OwnL.cast HO1.out (by show _ ++ [] = _; rw [List.append_nil]), HR1.out, HF1.out, HJ1.out, HGw1.out⟩
   case round =>
    obtain ⟨cv, hcv⟩ : ∃ cv, cv = u5 := ⟨_, rfl⟩
    obtain ⟨i, rfl, rfl, hi, hoc, hrw, hof, hoj, hg⟩ := hrel
    rw [← hcv] at hoc ⊢
    clear hcv
    obtain ⟨cl, hcl0⟩ : ∃ cl, cl = Lk.codeA 2 V S k ++ Lk.codeP 2 V S k i := ⟨_, rfl⟩
    have hPi := HPi.out k hkK i (by rw [← HNn.out]; exact hi)
    have hcl : cl.length ≤ 2000000 := by
     rw [hcl0, List.length_append]
     have h1 := HLA.out k (by omega)
     have h2 := HLP.out k hkK i (by rw [← HNn.out]; exact hi)
     omega
    rw [← hcl0] at hoc
    have HCl : Hid (cl = Lk.codeA 2 V S k ++ Lk.codeP 2 V S k i) := hcl0
    clear hcl0
    obtain ⟨ao, cp, rfl⟩ : ∃ ao cp, cv = .slice ao cl.length cp := by
     obtain ⟨ao, cp, e, _⟩ := (OwnL.toB hoc).shape
     exact ⟨ao, cp, e⟩
    have HO : Hid (OwnL wr w.heap.size (.slice ao cl.length cp) cl) := hoc
    have HRr : Hid (Rw N wr (.slice (some ⟨R, 0, none⟩) K cr) K 61 V A S) := hrw
    have HFr : Hid (OwnN wr bF (.slice (some ⟨TF, 0, none⟩) K K) K Fs) := hof
    have HJr : Hid (OwnN wr bJ (.slice (some ⟨TJ, 0, none⟩) n n) n J) := hoj
    have HG : Hid (w.grownBy wr none) := hg
    clear hoc hof hoj hg
    by_cases hin : i < n
    ·have hin' : (i : Int) < n := by omega
     obtain ⟨c1r, c3r, insr⟩ := HC1.out wr hrw
     have csr := HC3.out wr hrw i hin
     obtain ⟨b, off, rfl, hb, hIn, hrng⟩ := insr.at hin
     obtain ⟨v, hv⟩ : ∃ v, v = (V k).I i := ⟨_, rfl⟩
     rw [← hv] at hIn hrng
     obtain ⟨d0, d1, d2, d3, d4, d5, d6, d7, d8⟩ := hIn
     have hfi := HFi.out k hkK i (by rw [← HNn.out]; exact hin)
     have hPi1 := HPi.out k hkK (i + 1) (by rw [← HNn.out]; exact hin)
     rw [Lk.pos_succ] at hPi1
     obtain ⟨u, hu⟩ : ∃ u, u = Lk.fin 2 V S k i := ⟨_, rfl⟩
     rw [← hu] at hfi
     have hue := HFin.out k i
     rw [← hu, ← hv] at hue
     have HEq : Hid (Lk.codeA 2 V S k ++ Lk.codeP 2 V S k (i + 1) = cl ++ Ru.encT 2 u) := by
      show _ = _
      rw [HCl.out, hu, List.append_assoc]
      rfl
     have hJi : J i = if Lk.jmpB v.op then Lk.immS (V k) 2 (S k) i else 0 := by rw [HJe.out, HJd.out, ← hv]
     have hlab : Lk.labB (V k).m K v = true := by rw [hv]; exact HOk.out k hkK i (by rw [← HNn.out]; exact hin)
     obtain ⟨hmay, hurg, hEl⟩ := hfi
     have cj := HJr.out.cell hin
     have HIJ : Hid (∀ W, Calls Tryz.prog 46 #[.agg #[.int .i64 v.op, .int .i64 v.a, .int .i64 v.b, .int .i64 v.c, .int .i64 v.k, .int .i64 v.sub, .int .i64 v.scale, .int .i64 v.imm, .int .i64 v.label]] W fun e w' => e = .returned (.bool (Lk.jmpB v.op)) ∧ W.grownBy w' none) := fun W => isjump_any v W
     have HIC : Hid (∀ W, Calls Tryz.prog 48 #[.agg #[.int .i64 v.op, .int .i64 v.a, .int .i64 v.b, .int .i64 v.c, .int .i64 v.k, .int .i64 v.sub, .int .i64 v.scale, .int .i64 v.imm, .int .i64 v.label]] W fun e w' => e = .returned (.bool (v.op == 23)) ∧ W.grownBy w' none) := fun W => iscall_any v W
     have IN := InstAt.new wr v
     have hA := World.grownBy_alloc wr (Obj.cells #[.int .i64 v.op, .int .i64 v.a, .int .i64 v.b, .int .i64 v.c, .int .i64 v.k, .int .i64 v.sub, .int .i64 v.scale, .int .i64 v.imm, .int .i64 v.label] 50) none
     have c1A := hA.cell c1r (by simp)
     have c3A := hA.cell c3r (by simp)
     have csA := hA.cell csr (by simp)
     clear hrw insr hrng hu hv
     cases hj : Lk.jmpB v.op
     ·rw [hj] at hue hJi HIJ
      simp only [Bool.false_eq_true, if_false] at hue
      cases hc : v.op == 23
      ·rw [hc] at HIC
       have hc' : ¬ v.op = 23 := by simpa using hc
       rw [if_neg hc'] at hue
       rw [hue] at HEq hmay hurg hEl
       clear hue hc hc' hlab
       go_wp2_with (first | (go_at_call 46; refine (HIJ.out _).mono ?_; rintro e w2 ⟨rfl, hg2⟩; obtain ⟨z0, z1, z2, z3, z4, z5, z6, z7, z8, zz⟩ := IN.kept hg2 (by simp); clear zz) | (go_at_call 48; refine (HIC.out _).mono ?_; rintro e w3 ⟨rfl, hg3⟩))
       have HG6' : wr.grownBy w3 none := gtr hA (gtr hg2 hg3)
       have IN6 := (IN.kept hg2 (by simp)).kept hg3 (by simp)
       obtain ⟨W6, hW6⟩ : ∃ W6, W6 = w3 := ⟨_, rfl⟩
       rw [← hW6] at HG6' IN6 ⊢
       clear hW6 hA hg2 hg3 IN z0 z1 z2 z3 z4 z5 z6 z7 z8 d0 d1 d2 d3 d4 d5 d6 d7 d8 c1A c3A csA c1r c3r csr cj
       obtain ⟨bx, hbx⟩ : ∃ bx, bx = wr.heap.size := ⟨_, rfl⟩
       rw [← hbx] at IN6 ⊢
       clear hbx
       obtain ⟨x0, x1, x2, x3, x4, x5, x6, x7, x8, xz⟩ := IN6
       clear xz
       have HO6 : Hid (OwnL W6 w.heap.size (.slice ao cl.length cp) cl) := OwnL.grow HO.out HG6'
       have HR6 : Hid (Rw N W6 (.slice (some ⟨R, 0, none⟩) K cr) K 61 V A S) := HRr.out.grow HG6'
       have HF6 : Hid (OwnN W6 bF (.slice (some ⟨TF, 0, none⟩) K K) K Fs) := HFr.out.grow HG6'
       have HJ6 : Hid (OwnN W6 bJ (.slice (some ⟨TJ, 0, none⟩) n n) n J) := HJr.out.grow HG6'
       have HG6 : Hid (w.grownBy W6 none) := gtr HG.out HG6'
       clear HO HRr HFr HJr HG HG6'
       obtain ⟨SS, hSS⟩ : ∃ SS, SS = Ru.encT 2 (v) := ⟨_, rfl⟩
       rw [← hSS] at HEq hEl
       have HEn : Hid (∀ W, W6.grownBy W none → Calls Tryz.prog 61 #[.agg #[.int .i64 v.op, .int .i64 v.a, .int .i64 v.b, .int .i64 v.c, .int .i64 v.k, .int .i64 v.sub, .int .i64 v.scale, .int .i64 v.imm, .int .i64 v.label]] W fun e w' => ∃ T' c', e = .returned (.tuple #[.slice (some ⟨T', 0, none⟩) SS.length c', .int .i64 0]) ∧ OwnL w' W.heap.size (.slice (some ⟨T', 0, none⟩) SS.length c') SS ∧ W.grownBy w' none) := fun W g => by rw [hSS]; exact enc_c v W (HTw.out W (gtr HG6.out g)) hurg hmay
       have hSl : SS.length ≤ 1000 := by rw [hSS]; have := (Ru.encT_len 2 (v)).2; omega
       clear hSS
       have p0 := (HR6.out.pt k hkK).c0
       rw [← HBk.out] at p0
       go_cut [12, 13] (fun b e wx => ∃ T' c', b = .slice (some ⟨T', 0, none⟩) SS.length c' ∧ e = .int .i64 0 ∧ OwnL wx W6.heap.size (.slice (some ⟨T', 0, none⟩) SS.length c') SS ∧ W6.grownBy wx none)
       case first =>
        refine region_late 9 8 _ _ _ (psiE [.pointer (some ⟨Bk, 0, none⟩), .pointer (some ⟨Bk, 0, none⟩), .pointer (some ⟨Bk, 0, none⟩), .func (.func 61) #[] #[], .agg #[.int .i64 v.op, .int .i64 v.a, .int .i64 v.b, .int .i64 v.c, .int .i64 v.k, .int .i64 v.sub, .int .i64 v.scale, .int .i64 v.imm, .int .i64 v.label]] W6.heap.size SS) (by kernel_rfl) (by kernel_rfl) rfl rfl rfl (by kernel_rfl) (by kernel_rfl) (fun i x w0 w1 hi h g => psiE_stable h g) ?_ ?_ ?_
        ·simp only [List.take_succ_cons, List.take_zero]
         refine ⟨?_, ?_, ?_, ?_, ?_, ?_, ?_, ?_, ?_, trivial⟩
         ·intro VV W0 AA g hV hs hz
          have e07 := hz 7 (.pointer (some ⟨Bk, 0, none⟩)) (by kernel_rfl) rfl
          refine outO_val (v := .pointer (some ⟨Bk, 0, none⟩)) (w' := W0) ?_ gr0 (psiE_mk (by simp) rfl)
          simp [go_sem, e07]
         ·intro VV W0 AA g hV hs hz
          have q0 : VV 0 = .pointer (some ⟨Bk, 0, none⟩) := psiE_f (hV 0 (by kernel_rfl)) (by simp)
          have e0 := hs 68 0 (by kernel_rfl) (by kernel_rfl)
          refine outO_val (v := .pointer (some ⟨Bk, 0, none⟩)) (w' := W0) ?_ gr0 (psiE_mk (by simp) rfl)
          simp [go_sem, q0, e0]
         ·intro VV W0 AA g hV hs hz
          have q1 : VV 1 = .pointer (some ⟨Bk, 0, none⟩) := psiE_f (hV 1 (by kernel_rfl)) (by simp)
          have e1 := hs 69 1 (by kernel_rfl) (by kernel_rfl)
          refine outO_val (v := .pointer (some ⟨Bk, 0, none⟩)) (w' := W0) ?_ gr0 (psiE_mk (by simp) rfl)
          simp [go_sem, q1, e1]
         ·intro VV W0 AA g hV hs hz
          have gD : W6.grownBy W0 none := gdd g
          have q2 : VV 2 = .pointer (some ⟨Bk, 0, none⟩) := psiE_f (hV 2 (by kernel_rfl)) (by simp)
          have e2 := hs 70 2 (by kernel_rfl) (by kernel_rfl)
          have x0 := gD.cell p0 (by simp)
          refine outO_val (v := .func (.func 61) #[] #[]) (w' := W0) ?_ gr0 (psiE_mk (by simp) rfl)
          simp [go_sem, q2, e2, x0]
         ·intro VV W0 AA g hV hs hz
          have gD : W6.grownBy W0 none := gdd g
          have e011 := hz 11 (.pointer (some ⟨bx, 0, none⟩)) (by kernel_rfl) rfl
          have x0 := gD.cell x0 (by simp)
          have x1 := gD.cell x1 (by simp)
          have x2 := gD.cell x2 (by simp)
          have x3 := gD.cell x3 (by simp)
          have x4 := gD.cell x4 (by simp)
          have x5 := gD.cell x5 (by simp)
          have x6 := gD.cell x6 (by simp)
          have x7 := gD.cell x7 (by simp)
          have x8 := gD.cell x8 (by simp)
          refine outO_val (v := .agg #[.int .i64 v.op, .int .i64 v.a, .int .i64 v.b, .int .i64 v.c, .int .i64 v.k, .int .i64 v.sub, .int .i64 v.scale, .int .i64 v.imm, .int .i64 v.label]) (w' := W0) ?_ gr0 (psiE_mk (by simp) rfl)
          simp [go_sem, e011, x0, x1, x2, x3, x4, x5, x6, x7, x8]
         ·intro VV W0 AA g hV hs hz
          have gD : W6.grownBy W0 none := gdd g
          have q3 : VV 3 = .func (.func 61) #[] #[] := psiE_f (hV 3 (by kernel_rfl)) (by simp)
          have e3 := hs 71 3 (by kernel_rfl) (by kernel_rfl)
          have q4 : VV 4 = .agg #[.int .i64 v.op, .int .i64 v.a, .int .i64 v.b, .int .i64 v.c, .int .i64 v.k, .int .i64 v.sub, .int .i64 v.scale, .int .i64 v.imm, .int .i64 v.label] := psiE_f (hV 4 (by kernel_rfl)) (by simp)
          have e4 := hs 72 4 (by kernel_rfl) (by kernel_rfl)
          refine outO_call (f := 61) ?_ (psi_call (by have := g.size; exact this) (by simp) (by simp) (HEn.out W0 gD))
          simp [go_sem, q3, e3, q4, e4]
         ·intro VV W0 AA g hV hs hz
          obtain ⟨T1, k1, h1, o1⟩ := psiE_t (hV 5 (by kernel_rfl)) (by simp) (by simp)
          have e1 := hs 73 5 (by kernel_rfl) (by kernel_rfl)
          refine outO_val (v := VV 5) (w' := W0) ?_ gr0 (psiE_mt (by simp) (by simp) ⟨T1, k1, h1, o1⟩)
          simp [go_sem, e1]
         ·intro VV W0 AA g hV hs hz
          obtain ⟨T1, k1, h1, o1⟩ := psiE_t (hV 6 (by kernel_rfl)) (by simp) (by simp)
          have e1 := hs 67 6 (by kernel_rfl) (by kernel_rfl)
          refine outO_val (v := .slice (some ⟨T1, 0, none⟩) SS.length k1) (w' := W0) ?_ gr0 (psiE_ms (by simp) ⟨T1, k1, rfl, o1⟩)
          simp [go_sem, e1, h1]
         ·intro VV W0 AA g hV hs hz
          obtain ⟨T1, k1, h1, o1⟩ := psiE_t (hV 6 (by kernel_rfl)) (by simp) (by simp)
          have e1 := hs 67 6 (by kernel_rfl) (by kernel_rfl)
          refine outO_val (v := .int .i64 0) (w' := W0) ?_ gr0 (psiE_me (by simp) rfl)
          simp [go_sem, e1, h1]
        ·intro VV W0 g hV
         have gD : W6.grownBy W0 none := gdd g
         have h0 : VV 0 = .pointer (some ⟨Bk, 0, none⟩) := psiE_f (hV 0 (by decide)) (by simp)
         have h1 : VV 1 = .pointer (some ⟨Bk, 0, none⟩) := psiE_f (hV 1 (by decide)) (by simp)
         have h2 : VV 2 = .pointer (some ⟨Bk, 0, none⟩) := psiE_f (hV 2 (by decide)) (by simp)
         have h3 : VV 3 = .func (.func 61) #[] #[] := psiE_f (hV 3 (by decide)) (by simp)
         have h4 : VV 4 = .agg #[.int .i64 v.op, .int .i64 v.a, .int .i64 v.b, .int .i64 v.c, .int .i64 v.k, .int .i64 v.sub, .int .i64 v.scale, .int .i64 v.imm, .int .i64 v.label] := psiE_f (hV 4 (by decide)) (by simp)
         obtain ⟨T1, k1, h5, _⟩ := psiE_t (hV 5 (by decide)) (by simp) (by simp)
         obtain ⟨T2, k2, h6, _⟩ := psiE_t (hV 6 (by decide)) (by simp) (by simp)
         obtain ⟨T3, k3, h7, o3⟩ := psiE_s (hV 7 (by decide)) (by simp)
         have h8 := psiE_e (hV 8 (by decide)) (by simp)
         simp [frV, dstOf, Act.put, h0, h1, h2, h3, h4, h5, h6, h7, h8]
         clear h0 h1 h2 h3 h4 h5 h6 h7 h8 hV g
         have GR : Hid (W6.grownBy W0 none) := gD
         have O3 : Hid (OwnL W0 W6.heap.size (.slice (some ⟨T3, 0, none⟩) SS.length k3) SS) := o3
         clear gD o3
         go_wp2_with fail
         go_meet
         exact ⟨T3, k3, rfl, rfl, O3.out, GR.out⟩
        ·intro VV W0 g hV hold
         have gD : W6.grownBy W0 none := gdd g
         have h0 : VV 0 = .pointer (some ⟨Bk, 0, none⟩) := psiE_f (hV 0 (by decide) (by decide)) (by simp)
         have h1 : VV 1 = .pointer (some ⟨Bk, 0, none⟩) := psiE_f (hV 1 (by decide) (by decide)) (by simp)
         have h2 : VV 2 = .pointer (some ⟨Bk, 0, none⟩) := psiE_f (hV 2 (by decide) (by decide)) (by simp)
         have h3 : VV 3 = .func (.func 61) #[] #[] := psiE_f (hV 3 (by decide) (by decide)) (by simp)
         have h4 : VV 4 = .agg #[.int .i64 v.op, .int .i64 v.a, .int .i64 v.b, .int .i64 v.c, .int .i64 v.k, .int .i64 v.sub, .int .i64 v.scale, .int .i64 v.imm, .int .i64 v.label] := psiE_f (hV 4 (by decide) (by decide)) (by simp)
         obtain ⟨T1, k1, h5, _⟩ := psiE_t (hV 5 (by decide) (by decide)) (by simp) (by simp)
         obtain ⟨T2, k2, h6, _⟩ := psiE_t (hV 6 (by decide) (by decide)) (by simp) (by simp)
         obtain ⟨T3, k3, h7, o3⟩ := psiE_s (hV 7 (by decide) (by decide)) (by simp)
         obtain ⟨y, h8⟩ : ∃ y, VV 8 = y := ⟨_, rfl⟩
         simp [frV, dstOf, Act.put, h0, h1, h2, h3, h4, h5, h6, h7, h8]
         clear h0 h1 h2 h3 h4 h5 h6 h7 h8 hV g hold
         have GR : Hid (W6.grownBy W0 none) := gD
         have O3 : Hid (OwnL W0 W6.heap.size (.slice (some ⟨T3, 0, none⟩) SS.length k3) SS) := o3
         clear gD o3
         go_wp2_with fail
         go_meet
         exact ⟨T3, k3, rfl, rfl, O3.out, GR.out⟩
       case rest =>
        obtain ⟨T', c', rfl, rfl, oSS, g1⟩ := hcut
        obtain ⟨W7, hwc⟩ : ∃ x, x = wc := ⟨_, rfl⟩
        rw [← hwc] at g1 oSS ⊢
        clear hwc x0 x1 x2 x3 x4 x5 x6 x7 x8 p0 HEn
        have HO7 : Hid (OwnL W7 w.heap.size (.slice ao cl.length cp) cl) := OwnL.grow HO6.out g1
        have HR7 : Hid (Rw N W7 (.slice (some ⟨R, 0, none⟩) K cr) K 61 V A S) := HR6.out.grow g1
        have HF7 : Hid (OwnN W7 bF (.slice (some ⟨TF, 0, none⟩) K K) K Fs) := HF6.out.grow g1
        have HJ7 : Hid (OwnN W7 bJ (.slice (some ⟨TJ, 0, none⟩) n n) n J) := HJ6.out.grow g1
        have HG7 : Hid (w.grownBy W7 none) := gtr HG6.out g1
        have HS7 : Hid (OwnL W7 W6.heap.size (.slice (some ⟨T', 0, none⟩) SS.length c') SS) := oSS
        have hs7 := HG7.out.size
        clear g1 oSS
        go_wp2_with (at_builtin; refine wp_appS2 rfl _ _ rfl w.heap.size (.slice ao cl.length cp) cl SS T' c' W6.heap.size rfl HO7.out rfl HS7.out hcl hSl hs7 ?_; intro v8 w8 ho8 hg8)
        exact ⟨⟨i + 1, by go_num, by (congr 1; rw [Lk.pos_succ]; omega), by omega, OwnL.cast ho8 HEq.out, HR7.out.keptL HO7.out hNw hg8, HF7.out.keptL HO7.out hg8, HJ7.out.keptL HO7.out hg8, grown_L HG7.out HO7.out (Nat.le_refl _) hg8⟩, by simp [intOf]; omega⟩
      ·rw [hc] at HIC
       have hc' : v.op = 23 := by simpa using hc
       rw [if_pos hc'] at hue
       have hlc := Lk.lab_call hlab hc'
       obtain ⟨Lb, hLb⟩ : ∃ Lb : Nat, v.label = (Lb : Int) := ⟨v.label.toNat, by omega⟩
       have hLK : Lb < K := by omega
       have hPl := HPi.out Lb hLK 0 (Nat.zero_le _)
       have e00 : Lk.pos (S Lb) 0 = 0 := rfl
       obtain ⟨x, hx⟩ : ∃ x, x = Fs Lb - (Fs k + Lk.pos (S k) i + S k i) := ⟨_, rfl⟩
       have hue2 : u = Lk.lead v x := by
        rw [hue, hx, hLb, Lk.pos_succ]
        simp only [Int.toNat_natCast]
        congr 1
        omega
       clear hue
       subst hue2
       have hwx : IntKind.i64.wrap (Fs Lb - (Fs k + Lk.pos (S k) i + S k i)) = x := by rw [hx, IntKind.wrap_i64]; omega
       have hnL : ¬ K ≤ Lb := by omega
       have cF0 := hA.cell (HFr.out.cell hLK) (by simp)
       have HLb : Hid (v.label = (Lb : Int)) := hLb
       clear hx e00 hPl hlc hlab hc hc' hLb hJi
       go_wp2_with (first | (go_at_call 46; refine (HIJ.out _).mono ?_; rintro e w2 ⟨rfl, hg2⟩; obtain ⟨z0, z1, z2, z3, z4, z5, z6, z7, z8, zz⟩ := IN.kept hg2 (by simp); clear zz) | (go_at_call 48; refine (HIC.out _).mono ?_; rintro e w3 ⟨rfl, hg3⟩))
       have INb := (IN.kept hg2 (by simp)).kept hg3 (by simp)
       have cF := hg3.cell (hg2.cell cF0 (by simp)) (by simp)
       have HGb : Hid (wr.grownBy w3 none) := gtr hA (gtr hg2 hg3)
       clear hA hg2 hg3 IN d0 d1 d2 d3 d4 d5 d6 d7 d8 c1A c3A csA c1r c3r csr cj cF0 z0 z1 z2 z3 z4 z5 z6 z7 z8
       obtain ⟨bx, hbx⟩ : ∃ bx, bx = wr.heap.size := ⟨_, rfl⟩
       rw [← hbx] at INb ⊢
       have hbw : wr.heap.size ≤ bx := Nat.le_of_eq hbx.symm
       clear hbx
       have y0 := INb.c0
       have y1 := INb.c1
       have y2 := INb.c2
       have y3 := INb.c3
       have y4 := INb.c4
       have y5 := INb.c5
       have y6 := INb.c6
       have y7 := INb.c7
       have y8 := INb.c8
       have y8b := INb.c8
       rw [HLb.out] at y8b
       refine region_src 9 (psiV [.agg #[.int .i64 v.op, .int .i64 v.a, .int .i64 v.b, .int .i64 v.c, .int .i64 v.k, .int .i64 v.sub, .int .i64 v.scale, .int .i64 v.imm, .int .i64 v.label], .slice (some ⟨TF, 0, none⟩) K K, .pointer (some ⟨bx, 8, none⟩), .int .i64 (Lb : Int), .pointer (some ⟨TF, Lb, none⟩), .int .i64 (Fs Lb), .int .i64 (Fs k + Lk.pos (S k) i + S k i), .int .i64 x, .agg #[.int .i64 v.op, .int .i64 v.a, .int .i64 v.b, .int .i64 v.c, .int .i64 v.k, .int .i64 v.sub, .int .i64 v.scale, .int .i64 x, .int .i64 0]]) (by kernel_rfl) (by kernel_rfl) (by kernel_rfl) (by kernel_rfl) (fun i x w0 w1 hi h g => h) ?_ ?_
       ·simp only [List.take_succ_cons, List.take_zero]
        refine ⟨?_, ?_, ?_, ?_, ?_, ?_, ?_, ?_, ?_, trivial⟩
        ·intro VV W0 AA g hV hs hz
         have gD : w3.grownBy W0 none := gdd g
         have e011 := hz 11 (.pointer (some ⟨bx, 0, none⟩)) (by kernel_rfl) rfl
         have x0 := gD.cell y0 (by simp)
         have x1 := gD.cell y1 (by simp)
         have x2 := gD.cell y2 (by simp)
         have x3 := gD.cell y3 (by simp)
         have x4 := gD.cell y4 (by simp)
         have x5 := gD.cell y5 (by simp)
         have x6 := gD.cell y6 (by simp)
         have x7 := gD.cell y7 (by simp)
         have x8 := gD.cell y8 (by simp)
         refine ov (v := .agg #[.int .i64 v.op, .int .i64 v.a, .int .i64 v.b, .int .i64 v.c, .int .i64 v.k, .int .i64 v.sub, .int .i64 v.scale, .int .i64 v.imm, .int .i64 v.label]) ?_ rfl
         simp [go_sem, e011, x0, x1, x2, x3, x4, x5, x6, x7, x8]
        ·intro VV W0 AA g hV hs hz
         have e01 := hz 1 (.slice (some ⟨TF, 0, none⟩) K K) (by kernel_rfl) rfl
         refine ov (v := .slice (some ⟨TF, 0, none⟩) K K) ?_ rfl
         simp [go_sem, e01]
        ·intro VV W0 AA g hV hs hz
         have e011 := hz 11 (.pointer (some ⟨bx, 0, none⟩)) (by kernel_rfl) rfl
         refine ov (v := .pointer (some ⟨bx, 8, none⟩)) ?_ rfl
         simp [go_sem, e011]
        ·intro VV W0 AA g hV hs hz
         have gD : w3.grownBy W0 none := gdd g
         have q2 := psiV_eq (hV 2 (by kernel_rfl)) rfl
         have e2 := hs 60 2 (by kernel_rfl) (by kernel_rfl)
         have x0 := gD.cell y8b (by simp)
         refine ov (v := .int .i64 (Lb : Int)) ?_ rfl
         simp [go_sem, q2, e2, x0]
        ·intro VV W0 AA g hV hs hz
         have q1 := psiV_eq (hV 1 (by kernel_rfl)) rfl
         have e1 := hs 59 1 (by kernel_rfl) (by kernel_rfl)
         have q3 := psiV_eq (hV 3 (by kernel_rfl)) rfl
         have e3 := hs 61 3 (by kernel_rfl) (by kernel_rfl)
         refine ov (v := .pointer (some ⟨TF, Lb, none⟩)) ?_ rfl
         simp [go_sem, q1, e1, q3, e3, hnL]
        ·intro VV W0 AA g hV hs hz
         have gD : w3.grownBy W0 none := gdd g
         have q4 := psiV_eq (hV 4 (by kernel_rfl)) rfl
         have e4 := hs 62 4 (by kernel_rfl) (by kernel_rfl)
         have x0 := gD.cell cF (by simp)
         refine ov (v := .int .i64 (Fs Lb)) ?_ rfl
         simp [go_sem, q4, e4, x0]
        ·intro VV W0 AA g hV hs hz
         have e09 := hz 9 (.int .i64 (Fs k + Lk.pos (S k) i + S k i)) (by kernel_rfl) rfl
         refine ov (v := .int .i64 (Fs k + Lk.pos (S k) i + S k i)) ?_ rfl
         simp [go_sem, e09]
        ·intro VV W0 AA g hV hs hz
         have q5 := psiV_eq (hV 5 (by kernel_rfl)) rfl
         have e5 := hs 63 5 (by kernel_rfl) (by kernel_rfl)
         have q6 := psiV_eq (hV 6 (by kernel_rfl)) rfl
         have e6 := hs 64 6 (by kernel_rfl) (by kernel_rfl)
         refine ov (v := .int .i64 x) ?_ rfl
         simp [go_sem, q5, e5, q6, e6, hwx]
        ·intro VV W0 AA g hV hs hz
         have q0 := psiV_eq (hV 0 (by kernel_rfl)) rfl
         have e0 := hs 58 0 (by kernel_rfl) (by kernel_rfl)
         have q7 := psiV_eq (hV 7 (by kernel_rfl)) rfl
         have e7 := hs 65 7 (by kernel_rfl) (by kernel_rfl)
         refine outO_call (f := 47) ?_ ((leading_any v x W0).mono fun e w2 ⟨he, hg⟩ => ⟨_, he, hg, rfl⟩)
         simp [go_sem, q0, e0, q7, e7]
       ·intro VV W0 g hV
        have gD : w3.grownBy W0 none := gdd g
        have h0 := psiV_eq (hV 0 (by decide)) rfl
        have h1 := psiV_eq (hV 1 (by decide)) rfl
        have h2 := psiV_eq (hV 2 (by decide)) rfl
        have h3 := psiV_eq (hV 3 (by decide)) rfl
        have h4 := psiV_eq (hV 4 (by decide)) rfl
        have h5 := psiV_eq (hV 5 (by decide)) rfl
        have h6 := psiV_eq (hV 6 (by decide)) rfl
        have h7 := psiV_eq (hV 7 (by decide)) rfl
        have h8 := psiV_eq (hV 8 (by decide)) rfl
        simp [frV, dstOf, Act.put, h0, h1, h2, h3, h4, h5, h6, h7, h8]
        clear h0 h1 h2 h3 h4 h5 h6 h7 h8 hV g
        have IN0 := INb.kept gD (by simp)
        have IN1 := IN0
        have HGp : Hid (wr.grownBy (put9 W0 bx (Lk.lead v x)) none) := grown_two (gtr HGb.out gD) (grown_put9 _ _ _) hbw
        clear gD
        obtain ⟨z0, z1, z2, z3, z4, z5, z6, z7, z8, zz⟩ := IN0
        have f0 := zz 0
        have f1 := zz 1
        have f2 := zz 2
        have f3 := zz 3
        have f4 := zz 4
        have f5 := zz 5
        have f6 := zz 6
        have f7 := zz 7
        have f8 := zz 8
        clear zz
        go_wp2_with fail
        change Code.wp _ _ _ _ (put9 W0 bx (Lk.lead v x))
        have IN6 := IN1.put9 (Lk.lead v x)
        clear z0 z1 z2 z3 z4 z5 z6 z7 z8 f0 f1 f2 f3 f4 f5 f6 f7 f8 IN1
        obtain ⟨W6, hW6⟩ : ∃ W6, W6 = put9 W0 bx (Lk.lead v x) := ⟨_, rfl⟩
        rw [← hW6] at HGp IN6 ⊢
        clear hW6
        obtain ⟨x0, x1, x2, x3, x4, x5, x6, x7, x8, xz⟩ := IN6
        simp only [Lk.lead] at x0 x1 x2 x3 x4 x5 x6 x7 x8
        clear xz
        have HO6 : Hid (OwnL W6 w.heap.size (.slice ao cl.length cp) cl) := OwnL.grow HO.out HGp.out
        have HR6 : Hid (Rw N W6 (.slice (some ⟨R, 0, none⟩) K cr) K 61 V A S) := HRr.out.grow HGp.out
        have HF6 : Hid (OwnN W6 bF (.slice (some ⟨TF, 0, none⟩) K K) K Fs) := HFr.out.grow HGp.out
        have HJ6 : Hid (OwnN W6 bJ (.slice (some ⟨TJ, 0, none⟩) n n) n J) := HJr.out.grow HGp.out
        have HG6 : Hid (w.grownBy W6 none) := gtr HG.out HGp.out
        clear HO HRr HFr HJr HG HGp
        obtain ⟨SS, hSS⟩ : ∃ SS, SS = Ru.encT 2 (Lk.lead v x) := ⟨_, rfl⟩
        rw [← hSS] at HEq hEl
        have HEn : Hid (∀ W, W6.grownBy W none → Calls Tryz.prog 61 #[.agg #[.int .i64 v.op, .int .i64 v.a, .int .i64 v.b, .int .i64 v.c, .int .i64 v.k, .int .i64 v.sub, .int .i64 v.scale, .int .i64 x, .int .i64 0]] W fun e w' => ∃ T' c', e = .returned (.tuple #[.slice (some ⟨T', 0, none⟩) SS.length c', .int .i64 0]) ∧ OwnL w' W.heap.size (.slice (some ⟨T', 0, none⟩) SS.length c') SS ∧ W.grownBy w' none) := fun W g => by rw [hSS]; exact enc_c (Lk.lead v x) W (HTw.out W (gtr HG6.out g)) hurg hmay
        have hSl : SS.length ≤ 1000 := by rw [hSS]; have := (Ru.encT_len 2 (Lk.lead v x)).2; omega
        clear hSS
        have p0 := (HR6.out.pt k hkK).c0
        rw [← HBk.out] at p0
        go_cut [12, 13] (fun b e wx => ∃ T' c', b = .slice (some ⟨T', 0, none⟩) SS.length c' ∧ e = .int .i64 0 ∧ OwnL wx W6.heap.size (.slice (some ⟨T', 0, none⟩) SS.length c') SS ∧ W6.grownBy wx none)
        case first =>
         refine region_late 9 8 _ _ _ (psiE [.pointer (some ⟨Bk, 0, none⟩), .pointer (some ⟨Bk, 0, none⟩), .pointer (some ⟨Bk, 0, none⟩), .func (.func 61) #[] #[], .agg #[.int .i64 v.op, .int .i64 v.a, .int .i64 v.b, .int .i64 v.c, .int .i64 v.k, .int .i64 v.sub, .int .i64 v.scale, .int .i64 x, .int .i64 0]] W6.heap.size SS) (by kernel_rfl) (by kernel_rfl) rfl rfl rfl (by kernel_rfl) (by kernel_rfl) (fun i x w0 w1 hi h g => psiE_stable h g) ?_ ?_ ?_
         ·simp only [List.take_succ_cons, List.take_zero]
          refine ⟨?_, ?_, ?_, ?_, ?_, ?_, ?_, ?_, ?_, trivial⟩
          ·intro VV W0 AA g hV hs hz
           have gD : W6.grownBy W0 none := gdd g
           have e07 := hz 7 (.pointer (some ⟨Bk, 0, none⟩)) (by kernel_rfl) rfl
           clear hV hs hz
           refine outO_val (v := .pointer (some ⟨Bk, 0, none⟩)) (w' := W0) ?_ gr0 (psiE_mk (by simp) rfl)
           simp [go_sem, e07]
          ·intro VV W0 AA g hV hs hz
           have gD : W6.grownBy W0 none := gdd g
           have q0 : VV 0 = .pointer (some ⟨Bk, 0, none⟩) := psiE_f (hV 0 (by kernel_rfl)) (by simp)
           have e0 := hs 68 0 (by kernel_rfl) (by kernel_rfl)
           clear hV hs hz
           refine outO_val (v := .pointer (some ⟨Bk, 0, none⟩)) (w' := W0) ?_ gr0 (psiE_mk (by simp) rfl)
           simp [go_sem, q0, e0]
          ·intro VV W0 AA g hV hs hz
           have gD : W6.grownBy W0 none := gdd g
           have q1 : VV 1 = .pointer (some ⟨Bk, 0, none⟩) := psiE_f (hV 1 (by kernel_rfl)) (by simp)
           have e1 := hs 69 1 (by kernel_rfl) (by kernel_rfl)
           clear hV hs hz
           refine outO_val (v := .pointer (some ⟨Bk, 0, none⟩)) (w' := W0) ?_ gr0 (psiE_mk (by simp) rfl)
           simp [go_sem, q1, e1]
          ·intro VV W0 AA g hV hs hz
           have gD : W6.grownBy W0 none := gdd g
           have q2 : VV 2 = .pointer (some ⟨Bk, 0, none⟩) := psiE_f (hV 2 (by kernel_rfl)) (by simp)
           have e2 := hs 70 2 (by kernel_rfl) (by kernel_rfl)
           have x0 := gD.cell p0 (by simp)
           clear hV hs hz
           refine outO_val (v := .func (.func 61) #[] #[]) (w' := W0) ?_ gr0 (psiE_mk (by simp) rfl)
           simp [go_sem, q2, e2, x0]
          ·intro VV W0 AA g hV hs hz
           have gD : W6.grownBy W0 none := gdd g
           have e011 := hz 11 (.pointer (some ⟨bx, 0, none⟩)) (by kernel_rfl) rfl
           have x0 := gD.cell x0 (by simp)
           have x1 := gD.cell x1 (by simp)
           have x2 := gD.cell x2 (by simp)
           have x3 := gD.cell x3 (by simp)
           have x4 := gD.cell x4 (by simp)
           have x5 := gD.cell x5 (by simp)
           have x6 := gD.cell x6 (by simp)
           have x7 := gD.cell x7 (by simp)
           have x8 := gD.cell x8 (by simp)
           clear hV hs hz
           refine outO_val (v := .agg #[.int .i64 v.op, .int .i64 v.a, .int .i64 v.b, .int .i64 v.c, .int .i64 v.k, .int .i64 v.sub, .int .i64 v.scale, .int .i64 x, .int .i64 0]) (w' := W0) ?_ gr0 (psiE_mk (by simp) rfl)
           simp [go_sem, e011, x0, x1, x2, x3, x4, x5, x6, x7, x8]
          ·intro VV W0 AA g hV hs hz
           have gD : W6.grownBy W0 none := gdd g
           have q3 : VV 3 = .func (.func 61) #[] #[] := psiE_f (hV 3 (by kernel_rfl)) (by simp)
           have e3 := hs 71 3 (by kernel_rfl) (by kernel_rfl)
           have q4 : VV 4 = .agg #[.int .i64 v.op, .int .i64 v.a, .int .i64 v.b, .int .i64 v.c, .int .i64 v.k, .int .i64 v.sub, .int .i64 v.scale, .int .i64 x, .int .i64 0] := psiE_f (hV 4 (by kernel_rfl)) (by simp)
           have e4 := hs 72 4 (by kernel_rfl) (by kernel_rfl)
           clear hV hs hz
           refine outO_call (f := 61) ?_ (psi_call (by have := g.size; exact this) (by simp) (by simp) (HEn.out W0 gD))
           simp [go_sem, q3, e3, q4, e4]
          ·intro VV W0 AA g hV hs hz
           obtain ⟨T1, k1, h1, o1⟩ := psiE_t (hV 5 (by kernel_rfl)) (by simp) (by simp)
           have e1 := hs 73 5 (by kernel_rfl) (by kernel_rfl)
           clear hV hs hz
           refine outO_val (v := VV 5) (w' := W0) ?_ gr0 (psiE_mt (by simp) (by simp) ⟨T1, k1, h1, o1⟩)
           simp [go_sem, e1]
          ·intro VV W0 AA g hV hs hz
           obtain ⟨T1, k1, h1, o1⟩ := psiE_t (hV 6 (by kernel_rfl)) (by simp) (by simp)
           have e1 := hs 67 6 (by kernel_rfl) (by kernel_rfl)
           clear hV hs hz
           refine outO_val (v := .slice (some ⟨T1, 0, none⟩) SS.length k1) (w' := W0) ?_ gr0 (psiE_ms (by simp) ⟨T1, k1, rfl, o1⟩)
           simp [go_sem, e1, h1]
          ·intro VV W0 AA g hV hs hz
           obtain ⟨T1, k1, h1, o1⟩ := psiE_t (hV 6 (by kernel_rfl)) (by simp) (by simp)
           have e1 := hs 67 6 (by kernel_rfl) (by kernel_rfl)
           clear hV hs hz
           refine outO_val (v := .int .i64 0) (w' := W0) ?_ gr0 (psiE_me (by simp) rfl)
           simp [go_sem, e1, h1]
         ·intro VV W0 g hV
          have gD : W6.grownBy W0 none := gdd g
          have h0 : VV 0 = .pointer (some ⟨Bk, 0, none⟩) := psiE_f (hV 0 (by decide)) (by simp)
          have h1 : VV 1 = .pointer (some ⟨Bk, 0, none⟩) := psiE_f (hV 1 (by decide)) (by simp)
          have h2 : VV 2 = .pointer (some ⟨Bk, 0, none⟩) := psiE_f (hV 2 (by decide)) (by simp)
          have h3 : VV 3 = .func (.func 61) #[] #[] := psiE_f (hV 3 (by decide)) (by simp)
          have h4 : VV 4 = .agg #[.int .i64 v.op, .int .i64 v.a, .int .i64 v.b, .int .i64 v.c, .int .i64 v.k, .int .i64 v.sub, .int .i64 v.scale, .int .i64 x, .int .i64 0] := psiE_f (hV 4 (by decide)) (by simp)
          obtain ⟨T1, k1, h5, _⟩ := psiE_t (hV 5 (by decide)) (by simp) (by simp)
          obtain ⟨T2, k2, h6, _⟩ := psiE_t (hV 6 (by decide)) (by simp) (by simp)
          obtain ⟨T3, k3, h7, o3⟩ := psiE_s (hV 7 (by decide)) (by simp)
          have h8 := psiE_e (hV 8 (by decide)) (by simp)
          simp [frV, dstOf, Act.put, h0, h1, h2, h3, h4, h5, h6, h7, h8]
          clear h0 h1 h2 h3 h4 h5 h6 h7 h8 hV g
          have GR : Hid (W6.grownBy W0 none) := gD
          have O3 : Hid (OwnL W0 W6.heap.size (.slice (some ⟨T3, 0, none⟩) SS.length k3) SS) := o3
          clear gD o3
          go_wp2_with fail
          go_meet
          exact ⟨T3, k3, rfl, rfl, O3.out, GR.out⟩
         ·intro VV W0 g hV hold
          have gD : W6.grownBy W0 none := gdd g
          have h0 : VV 0 = .pointer (some ⟨Bk, 0, none⟩) := psiE_f (hV 0 (by decide) (by decide)) (by simp)
          have h1 : VV 1 = .pointer (some ⟨Bk, 0, none⟩) := psiE_f (hV 1 (by decide) (by decide)) (by simp)
          have h2 : VV 2 = .pointer (some ⟨Bk, 0, none⟩) := psiE_f (hV 2 (by decide) (by decide)) (by simp)
          have h3 : VV 3 = .func (.func 61) #[] #[] := psiE_f (hV 3 (by decide) (by decide)) (by simp)
          have h4 : VV 4 = .agg #[.int .i64 v.op, .int .i64 v.a, .int .i64 v.b, .int .i64 v.c, .int .i64 v.k, .int .i64 v.sub, .int .i64 v.scale, .int .i64 x, .int .i64 0] := psiE_f (hV 4 (by decide) (by decide)) (by simp)
          obtain ⟨T1, k1, h5, _⟩ := psiE_t (hV 5 (by decide) (by decide)) (by simp) (by simp)
          obtain ⟨T2, k2, h6, _⟩ := psiE_t (hV 6 (by decide) (by decide)) (by simp) (by simp)
          obtain ⟨T3, k3, h7, o3⟩ := psiE_s (hV 7 (by decide) (by decide)) (by simp)
          obtain ⟨y, h8⟩ : ∃ y, VV 8 = y := ⟨_, rfl⟩
          simp [frV, dstOf, Act.put, h0, h1, h2, h3, h4, h5, h6, h7, h8]
          clear h0 h1 h2 h3 h4 h5 h6 h7 h8 hV g hold
          have GR : Hid (W6.grownBy W0 none) := gD
          have O3 : Hid (OwnL W0 W6.heap.size (.slice (some ⟨T3, 0, none⟩) SS.length k3) SS) := o3
          clear gD o3
          go_wp2_with fail
          go_meet
          exact ⟨T3, k3, rfl, rfl, O3.out, GR.out⟩
        case rest =>
         obtain ⟨T', c', rfl, rfl, oSS, g1⟩ := hcut
         obtain ⟨W7, hwc⟩ : ∃ x, x = wc := ⟨_, rfl⟩
         rw [← hwc] at g1 oSS ⊢
         clear hwc x0 x1 x2 x3 x4 x5 x6 x7 x8 p0 HEn
         have HO7 : Hid (OwnL W7 w.heap.size (.slice ao cl.length cp) cl) := OwnL.grow HO6.out g1
         have HR7 : Hid (Rw N W7 (.slice (some ⟨R, 0, none⟩) K cr) K 61 V A S) := HR6.out.grow g1
         have HF7 : Hid (OwnN W7 bF (.slice (some ⟨TF, 0, none⟩) K K) K Fs) := HF6.out.grow g1
         have HJ7 : Hid (OwnN W7 bJ (.slice (some ⟨TJ, 0, none⟩) n n) n J) := HJ6.out.grow g1
         have HG7 : Hid (w.grownBy W7 none) := gtr HG6.out g1
         have HS7 : Hid (OwnL W7 W6.heap.size (.slice (some ⟨T', 0, none⟩) SS.length c') SS) := oSS
         have hs7 := HG7.out.size
         clear g1 oSS
         go_wp2_with (at_builtin; refine wp_appS2 rfl _ _ rfl w.heap.size (.slice ao cl.length cp) cl SS T' c' W6.heap.size rfl HO7.out rfl HS7.out hcl hSl hs7 ?_; intro v8 w8 ho8 hg8)
         exact ⟨⟨i + 1, by go_num, by (congr 1; rw [Lk.pos_succ]; omega), by omega, OwnL.cast ho8 HEq.out, HR7.out.keptL HO7.out hNw hg8, HF7.out.keptL HO7.out hg8, HJ7.out.keptL HO7.out hg8, grown_L HG7.out HO7.out (Nat.le_refl _) hg8⟩, by simp [intOf]; omega⟩
     ·rw [hj] at hue hJi HIJ
      simp only [if_true] at hue hJi
      rw [← hJi] at hue
      obtain ⟨x, hx⟩ : ∃ x, x = J i := ⟨_, rfl⟩
      rw [← hx] at hue cj
      clear hJi hx hlab
      subst hue
      have cjA := hA.cell cj (by simp)
      have hni : ¬ n ≤ i := by omega
      go_wp2_with (first | (go_at_call 46; refine (HIJ.out _).mono ?_; rintro e w2 ⟨rfl, hg2⟩))
      have INb := IN.kept hg2 (by simp)
      have cj2 := hg2.cell cjA (by simp)
      have HGb : Hid (wr.grownBy w2 none) := gtr hA hg2
      have hbw : wr.heap.size ≤ wr.heap.size := Nat.le_refl _
      clear hA hg2 IN d0 d1 d2 d3 d4 d5 d6 d7 d8 c1A c3A csA c1r c3r csr cj cjA
      obtain ⟨bx, hbx⟩ : ∃ bx, bx = wr.heap.size := ⟨_, rfl⟩
      rw [← hbx] at INb ⊢
      have hbw : wr.heap.size ≤ bx := Nat.le_of_eq hbx.symm
      clear hbx
      have y0 := INb.c0
      have y1 := INb.c1
      have y2 := INb.c2
      have y3 := INb.c3
      have y4 := INb.c4
      have y5 := INb.c5
      have y6 := INb.c6
      have y7 := INb.c7
      have y8 := INb.c8
      refine region_src 6 (psiV [.agg #[.int .i64 v.op, .int .i64 v.a, .int .i64 v.b, .int .i64 v.c, .int .i64 v.k, .int .i64 v.sub, .int .i64 v.scale, .int .i64 v.imm, .int .i64 v.label], .slice (some ⟨TJ, 0, none⟩) n n, .int .i64 (i : Int), .pointer (some ⟨TJ, i, none⟩), .int .i64 x, .agg #[.int .i64 v.op, .int .i64 v.a, .int .i64 v.b, .int .i64 v.c, .int .i64 v.k, .int .i64 v.sub, .int .i64 v.scale, .int .i64 x, .int .i64 0]]) (by kernel_rfl) (by kernel_rfl) (by kernel_rfl) (by kernel_rfl) (fun i x w0 w1 hi h g => h) ?_ ?_
      ·simp only [List.take_succ_cons, List.take_zero]
       refine ⟨?_, ?_, ?_, ?_, ?_, ?_, trivial⟩
       ·intro VV W0 AA g hV hs hz
        have gD : w2.grownBy W0 none := gdd g
        have e011 := hz 11 (.pointer (some ⟨bx, 0, none⟩)) (by kernel_rfl) rfl
        have x0 := gD.cell y0 (by simp)
        have x1 := gD.cell y1 (by simp)
        have x2 := gD.cell y2 (by simp)
        have x3 := gD.cell y3 (by simp)
        have x4 := gD.cell y4 (by simp)
        have x5 := gD.cell y5 (by simp)
        have x6 := gD.cell y6 (by simp)
        have x7 := gD.cell y7 (by simp)
        have x8 := gD.cell y8 (by simp)
        refine ov (v := .agg #[.int .i64 v.op, .int .i64 v.a, .int .i64 v.b, .int .i64 v.c, .int .i64 v.k, .int .i64 v.sub, .int .i64 v.scale, .int .i64 v.imm, .int .i64 v.label]) ?_ rfl
        simp [go_sem, e011, x0, x1, x2, x3, x4, x5, x6, x7, x8]
       ·intro VV W0 AA g hV hs hz
        have e08 := hz 8 (.slice (some ⟨TJ, 0, none⟩) n n) (by kernel_rfl) rfl
        refine ov (v := .slice (some ⟨TJ, 0, none⟩) n n) ?_ rfl
        simp [go_sem, e08]
       ·intro VV W0 AA g hV hs hz
        have e010 := hz 10 (.int .i64 (i : Int)) (by kernel_rfl) rfl
        refine ov (v := .int .i64 (i : Int)) ?_ rfl
        simp [go_sem, e010]
       ·intro VV W0 AA g hV hs hz
        have q1 := psiV_eq (hV 1 (by kernel_rfl)) rfl
        have e1 := hs 50 1 (by kernel_rfl) (by kernel_rfl)
        have q2 := psiV_eq (hV 2 (by kernel_rfl)) rfl
        have e2 := hs 51 2 (by kernel_rfl) (by kernel_rfl)
        refine ov (v := .pointer (some ⟨TJ, i, none⟩)) ?_ rfl
        simp [go_sem, q1, e1, q2, e2, hni]
       ·intro VV W0 AA g hV hs hz
        have gD : w2.grownBy W0 none := gdd g
        have q3 := psiV_eq (hV 3 (by kernel_rfl)) rfl
        have e3 := hs 52 3 (by kernel_rfl) (by kernel_rfl)
        have x0 := gD.cell cj2 (by simp)
        refine ov (v := .int .i64 x) ?_ rfl
        simp [go_sem, q3, e3, x0]
       ·intro VV W0 AA g hV hs hz
        have q0 := psiV_eq (hV 0 (by kernel_rfl)) rfl
        have e0 := hs 49 0 (by kernel_rfl) (by kernel_rfl)
        have q4 := psiV_eq (hV 4 (by kernel_rfl)) rfl
        have e4 := hs 53 4 (by kernel_rfl) (by kernel_rfl)
        refine outO_call (f := 47) ?_ ((leading_any v x W0).mono fun e w2 ⟨he, hg⟩ => ⟨_, he, hg, rfl⟩)
        simp [go_sem, q0, e0, q4, e4]
      ·intro VV W0 g hV
       have gD : w2.grownBy W0 none := gdd g
       have h0 := psiV_eq (hV 0 (by decide)) rfl
       have h1 := psiV_eq (hV 1 (by decide)) rfl
       have h2 := psiV_eq (hV 2 (by decide)) rfl
       have h3 := psiV_eq (hV 3 (by decide)) rfl
       have h4 := psiV_eq (hV 4 (by decide)) rfl
       have h5 := psiV_eq (hV 5 (by decide)) rfl
       simp [frV, dstOf, Act.put, h0, h1, h2, h3, h4, h5]
       clear h0 h1 h2 h3 h4 h5 hV g
       have IN0 := INb.kept gD (by simp)
       have IN1 := IN0
       have HGp : Hid (wr.grownBy (put9 W0 bx (Lk.lead v x)) none) := grown_two (gtr HGb.out gD) (grown_put9 _ _ _) hbw
       clear gD
       obtain ⟨z0, z1, z2, z3, z4, z5, z6, z7, z8, zz⟩ := IN0
       have f0 := zz 0
       have f1 := zz 1
       have f2 := zz 2
       have f3 := zz 3
       have f4 := zz 4
       have f5 := zz 5
       have f6 := zz 6
       have f7 := zz 7
       have f8 := zz 8
       clear zz
       go_wp2_with fail
       change Code.wp _ _ _ _ (put9 W0 bx (Lk.lead v x))
       have IN6 := IN1.put9 (Lk.lead v x)
       clear z0 z1 z2 z3 z4 z5 z6 z7 z8 f0 f1 f2 f3 f4 f5 f6 f7 f8 IN1
       obtain ⟨W6, hW6⟩ : ∃ W6, W6 = put9 W0 bx (Lk.lead v x) := ⟨_, rfl⟩
       rw [← hW6] at HGp IN6 ⊢
       clear hW6
       obtain ⟨x0, x1, x2, x3, x4, x5, x6, x7, x8, xz⟩ := IN6
       simp only [Lk.lead] at x0 x1 x2 x3 x4 x5 x6 x7 x8
       clear xz
       have HO6 : Hid (OwnL W6 w.heap.size (.slice ao cl.length cp) cl) := OwnL.grow HO.out HGp.out
       have HR6 : Hid (Rw N W6 (.slice (some ⟨R, 0, none⟩) K cr) K 61 V A S) := HRr.out.grow HGp.out
       have HF6 : Hid (OwnN W6 bF (.slice (some ⟨TF, 0, none⟩) K K) K Fs) := HFr.out.grow HGp.out
       have HJ6 : Hid (OwnN W6 bJ (.slice (some ⟨TJ, 0, none⟩) n n) n J) := HJr.out.grow HGp.out
       have HG6 : Hid (w.grownBy W6 none) := gtr HG.out HGp.out
       clear HO HRr HFr HJr HG HGp
       obtain ⟨SS, hSS⟩ : ∃ SS, SS = Ru.encT 2 (Lk.lead v x) := ⟨_, rfl⟩
       rw [← hSS] at HEq hEl
       have HEn : Hid (∀ W, W6.grownBy W none → Calls Tryz.prog 61 #[.agg #[.int .i64 v.op, .int .i64 v.a, .int .i64 v.b, .int .i64 v.c, .int .i64 v.k, .int .i64 v.sub, .int .i64 v.scale, .int .i64 x, .int .i64 0]] W fun e w' => ∃ T' c', e = .returned (.tuple #[.slice (some ⟨T', 0, none⟩) SS.length c', .int .i64 0]) ∧ OwnL w' W.heap.size (.slice (some ⟨T', 0, none⟩) SS.length c') SS ∧ W.grownBy w' none) := fun W g => by rw [hSS]; exact enc_c (Lk.lead v x) W (HTw.out W (gtr HG6.out g)) hurg hmay
       have hSl : SS.length ≤ 1000 := by rw [hSS]; have := (Ru.encT_len 2 (Lk.lead v x)).2; omega
       clear hSS
       have p0 := (HR6.out.pt k hkK).c0
       rw [← HBk.out] at p0
       go_cut [12, 13] (fun b e wx => ∃ T' c', b = .slice (some ⟨T', 0, none⟩) SS.length c' ∧ e = .int .i64 0 ∧ OwnL wx W6.heap.size (.slice (some ⟨T', 0, none⟩) SS.length c') SS ∧ W6.grownBy wx none)
       case first =>
        refine region_late 9 8 _ _ _ (psiE [.pointer (some ⟨Bk, 0, none⟩), .pointer (some ⟨Bk, 0, none⟩), .pointer (some ⟨Bk, 0, none⟩), .func (.func 61) #[] #[], .agg #[.int .i64 v.op, .int .i64 v.a, .int .i64 v.b, .int .i64 v.c, .int .i64 v.k, .int .i64 v.sub, .int .i64 v.scale, .int .i64 x, .int .i64 0]] W6.heap.size SS) (by kernel_rfl) (by kernel_rfl) rfl rfl rfl (by kernel_rfl) (by kernel_rfl) (fun i x w0 w1 hi h g => psiE_stable h g) ?_ ?_ ?_
        ·simp only [List.take_succ_cons, List.take_zero]
         refine ⟨?_, ?_, ?_, ?_, ?_, ?_, ?_, ?_, ?_, trivial⟩
         ·intro VV W0 AA g hV hs hz
          have gD : W6.grownBy W0 none := gdd g
          have e07 := hz 7 (.pointer (some ⟨Bk, 0, none⟩)) (by kernel_rfl) rfl
          clear hV hs hz
          refine outO_val (v := .pointer (some ⟨Bk, 0, none⟩)) (w' := W0) ?_ gr0 (psiE_mk (by simp) rfl)
          simp [go_sem, e07]
         ·intro VV W0 AA g hV hs hz
          have gD : W6.grownBy W0 none := gdd g
          have q0 : VV 0 = .pointer (some ⟨Bk, 0, none⟩) := psiE_f (hV 0 (by kernel_rfl)) (by simp)
          have e0 := hs 68 0 (by kernel_rfl) (by kernel_rfl)
          clear hV hs hz
          refine outO_val (v := .pointer (some ⟨Bk, 0, none⟩)) (w' := W0) ?_ gr0 (psiE_mk (by simp) rfl)
          simp [go_sem, q0, e0]
         ·intro VV W0 AA g hV hs hz
          have gD : W6.grownBy W0 none := gdd g
          have q1 : VV 1 = .pointer (some ⟨Bk, 0, none⟩) := psiE_f (hV 1 (by kernel_rfl)) (by simp)
          have e1 := hs 69 1 (by kernel_rfl) (by kernel_rfl)
          clear hV hs hz
          refine outO_val (v := .pointer (some ⟨Bk, 0, none⟩)) (w' := W0) ?_ gr0 (psiE_mk (by simp) rfl)
          simp [go_sem, q1, e1]
         ·intro VV W0 AA g hV hs hz
          have gD : W6.grownBy W0 none := gdd g
          have q2 : VV 2 = .pointer (some ⟨Bk, 0, none⟩) := psiE_f (hV 2 (by kernel_rfl)) (by simp)
          have e2 := hs 70 2 (by kernel_rfl) (by kernel_rfl)
          have x0 := gD.cell p0 (by simp)
          clear hV hs hz
          refine outO_val (v := .func (.func 61) #[] #[]) (w' := W0) ?_ gr0 (psiE_mk (by simp) rfl)
          simp [go_sem, q2, e2, x0]
         ·intro VV W0 AA g hV hs hz
          have gD : W6.grownBy W0 none := gdd g
          have e011 := hz 11 (.pointer (some ⟨bx, 0, none⟩)) (by kernel_rfl) rfl
          have x0 := gD.cell x0 (by simp)
          have x1 := gD.cell x1 (by simp)
          have x2 := gD.cell x2 (by simp)
          have x3 := gD.cell x3 (by simp)
          have x4 := gD.cell x4 (by simp)
          have x5 := gD.cell x5 (by simp)
          have x6 := gD.cell x6 (by simp)
          have x7 := gD.cell x7 (by simp)
          have x8 := gD.cell x8 (by simp)
          clear hV hs hz
          refine outO_val (v := .agg #[.int .i64 v.op, .int .i64 v.a, .int .i64 v.b, .int .i64 v.c, .int .i64 v.k, .int .i64 v.sub, .int .i64 v.scale, .int .i64 x, .int .i64 0]) (w' := W0) ?_ gr0 (psiE_mk (by simp) rfl)
          simp [go_sem, e011, x0, x1, x2, x3, x4, x5, x6, x7, x8]
         ·intro VV W0 AA g hV hs hz
          have gD : W6.grownBy W0 none := gdd g
          have q3 : VV 3 = .func (.func 61) #[] #[] := psiE_f (hV 3 (by kernel_rfl)) (by simp)
          have e3 := hs 71 3 (by kernel_rfl) (by kernel_rfl)
          have q4 : VV 4 = .agg #[.int .i64 v.op, .int .i64 v.a, .int .i64 v.b, .int .i64 v.c, .int .i64 v.k, .int .i64 v.sub, .int .i64 v.scale, .int .i64 x, .int .i64 0] := psiE_f (hV 4 (by kernel_rfl)) (by simp)
          have e4 := hs 72 4 (by kernel_rfl) (by kernel_rfl)
          clear hV hs hz
          refine outO_call (f := 61) ?_ (psi_call (by have := g.size; exact this) (by simp) (by simp) (HEn.out W0 gD))
          simp [go_sem, q3, e3, q4, e4]
         ·intro VV W0 AA g hV hs hz
          obtain ⟨T1, k1, h1, o1⟩ := psiE_t (hV 5 (by kernel_rfl)) (by simp) (by simp)
          have e1 := hs 73 5 (by kernel_rfl) (by kernel_rfl)
          clear hV hs hz
          refine outO_val (v := VV 5) (w' := W0) ?_ gr0 (psiE_mt (by simp) (by simp) ⟨T1, k1, h1, o1⟩)
          simp [go_sem, e1]
         ·intro VV W0 AA g hV hs hz
          obtain ⟨T1, k1, h1, o1⟩ := psiE_t (hV 6 (by kernel_rfl)) (by simp) (by simp)
          have e1 := hs 67 6 (by kernel_rfl) (by kernel_rfl)
          clear hV hs hz
          refine outO_val (v := .slice (some ⟨T1, 0, none⟩) SS.length k1) (w' := W0) ?_ gr0 (psiE_ms (by simp) ⟨T1, k1, rfl, o1⟩)
          simp [go_sem, e1, h1]
         ·intro VV W0 AA g hV hs hz
          obtain ⟨T1, k1, h1, o1⟩ := psiE_t (hV 6 (by kernel_rfl)) (by simp) (by simp)
          have e1 := hs 67 6 (by kernel_rfl) (by kernel_rfl)
          clear hV hs hz
          refine outO_val (v := .int .i64 0) (w' := W0) ?_ gr0 (psiE_me (by simp) rfl)
          simp [go_sem, e1, h1]
        ·intro VV W0 g hV
         have gD : W6.grownBy W0 none := gdd g
         have h0 : VV 0 = .pointer (some ⟨Bk, 0, none⟩) := psiE_f (hV 0 (by decide)) (by simp)
         have h1 : VV 1 = .pointer (some ⟨Bk, 0, none⟩) := psiE_f (hV 1 (by decide)) (by simp)
         have h2 : VV 2 = .pointer (some ⟨Bk, 0, none⟩) := psiE_f (hV 2 (by decide)) (by simp)
         have h3 : VV 3 = .func (.func 61) #[] #[] := psiE_f (hV 3 (by decide)) (by simp)
         have h4 : VV 4 = .agg #[.int .i64 v.op, .int .i64 v.a, .int .i64 v.b, .int .i64 v.c, .int .i64 v.k, .int .i64 v.sub, .int .i64 v.scale, .int .i64 x, .int .i64 0] := psiE_f (hV 4 (by decide)) (by simp)
         obtain ⟨T1, k1, h5, _⟩ := psiE_t (hV 5 (by decide)) (by simp) (by simp)
         obtain ⟨T2, k2, h6, _⟩ := psiE_t (hV 6 (by decide)) (by simp) (by simp)
         obtain ⟨T3, k3, h7, o3⟩ := psiE_s (hV 7 (by decide)) (by simp)
         have h8 := psiE_e (hV 8 (by decide)) (by simp)
         simp [frV, dstOf, Act.put, h0, h1, h2, h3, h4, h5, h6, h7, h8]
         clear h0 h1 h2 h3 h4 h5 h6 h7 h8 hV g
         have GR : Hid (W6.grownBy W0 none) := gD
         have O3 : Hid (OwnL W0 W6.heap.size (.slice (some ⟨T3, 0, none⟩) SS.length k3) SS) := o3
         clear gD o3
         go_wp2_with fail
         go_meet
         exact ⟨T3, k3, rfl, rfl, O3.out, GR.out⟩
        ·intro VV W0 g hV hold
         have gD : W6.grownBy W0 none := gdd g
         have h0 : VV 0 = .pointer (some ⟨Bk, 0, none⟩) := psiE_f (hV 0 (by decide) (by decide)) (by simp)
         have h1 : VV 1 = .pointer (some ⟨Bk, 0, none⟩) := psiE_f (hV 1 (by decide) (by decide)) (by simp)
         have h2 : VV 2 = .pointer (some ⟨Bk, 0, none⟩) := psiE_f (hV 2 (by decide) (by decide)) (by simp)
         have h3 : VV 3 = .func (.func 61) #[] #[] := psiE_f (hV 3 (by decide) (by decide)) (by simp)
         have h4 : VV 4 = .agg #[.int .i64 v.op, .int .i64 v.a, .int .i64 v.b, .int .i64 v.c, .int .i64 v.k, .int .i64 v.sub, .int .i64 v.scale, .int .i64 x, .int .i64 0] := psiE_f (hV 4 (by decide) (by decide)) (by simp)
         obtain ⟨T1, k1, h5, _⟩ := psiE_t (hV 5 (by decide) (by decide)) (by simp) (by simp)
         obtain ⟨T2, k2, h6, _⟩ := psiE_t (hV 6 (by decide) (by decide)) (by simp) (by simp)
         obtain ⟨T3, k3, h7, o3⟩ := psiE_s (hV 7 (by decide) (by decide)) (by simp)
         obtain ⟨y, h8⟩ : ∃ y, VV 8 = y := ⟨_, rfl⟩
         simp [frV, dstOf, Act.put, h0, h1, h2, h3, h4, h5, h6, h7, h8]
         clear h0 h1 h2 h3 h4 h5 h6 h7 h8 hV g hold
         have GR : Hid (W6.grownBy W0 none) := gD
         have O3 : Hid (OwnL W0 W6.heap.size (.slice (some ⟨T3, 0, none⟩) SS.length k3) SS) := o3
         clear gD o3
         go_wp2_with fail
         go_meet
         exact ⟨T3, k3, rfl, rfl, O3.out, GR.out⟩
       case rest =>
        obtain ⟨T', c', rfl, rfl, oSS, g1⟩ := hcut
        obtain ⟨W7, hwc⟩ : ∃ x, x = wc := ⟨_, rfl⟩
        rw [← hwc] at g1 oSS ⊢
        clear hwc x0 x1 x2 x3 x4 x5 x6 x7 x8 p0 HEn
        have HO7 : Hid (OwnL W7 w.heap.size (.slice ao cl.length cp) cl) := OwnL.grow HO6.out g1
        have HR7 : Hid (Rw N W7 (.slice (some ⟨R, 0, none⟩) K cr) K 61 V A S) := HR6.out.grow g1
        have HF7 : Hid (OwnN W7 bF (.slice (some ⟨TF, 0, none⟩) K K) K Fs) := HF6.out.grow g1
        have HJ7 : Hid (OwnN W7 bJ (.slice (some ⟨TJ, 0, none⟩) n n) n J) := HJ6.out.grow g1
        have HG7 : Hid (w.grownBy W7 none) := gtr HG6.out g1
        have HS7 : Hid (OwnL W7 W6.heap.size (.slice (some ⟨T', 0, none⟩) SS.length c') SS) := oSS
        have hs7 := HG7.out.size
        clear g1 oSS
        go_wp2_with (at_builtin; refine wp_appS2 rfl _ _ rfl w.heap.size (.slice ao cl.length cp) cl SS T' c' W6.heap.size rfl HO7.out rfl HS7.out hcl hSl hs7 ?_; intro v8 w8 ho8 hg8)
        exact ⟨⟨i + 1, by go_num, by (congr 1; rw [Lk.pos_succ]; omega), by omega, OwnL.cast ho8 HEq.out, HR7.out.keptL HO7.out hNw hg8, HF7.out.keptL HO7.out hg8, HJ7.out.keptL HO7.out hg8, grown_L HG7.out HO7.out (Nat.le_refl _) hg8⟩, by simp [intOf]; omega⟩
    ·obtain rfl : i = n := by omega
     go_wp2
     go_roundw
     case rel => exact ⟨k + 1, by go_num, by omega, OwnL.cast HO.out (by rw [HCl.out, HNn.out]; rfl), HRr.out, HFr.out, HG.out⟩
     case measure => simp [intOf]; omega
  ·obtain rfl : k = K := by omega
   go_wp2
   go_ret
   exact ⟨_, rfl, HOc.out, HGo.out⟩
end Go.Proofs.YtkiockffejlnhaaGreatDoor
