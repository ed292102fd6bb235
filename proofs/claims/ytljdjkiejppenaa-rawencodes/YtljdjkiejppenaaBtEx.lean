/- gantryref8: the bytes of terms. -/
import Derived.Test.YtljdjkiejppenaaG11
namespace Go.Proofs.Ytljdjkiejppenaa
open Go.RowKit
set_option linter.unusedVariables false

/-- a text's bytes behind bytes of the call's own -/
theorem wp_rbStr {ops : Array Oper} {rest : List Oper} {o : Oper} {a : Act} {Q : Exit → Act → World → Prop} {W : World} (hgd : o.guard = none) (s x : Operand)
    (ho : o.op = .call { callee := .builtin .append, args := #[s, x], argTypes := #[29, 9] }) (base : Nat) (v : Value) (l : List Int) (hs : a.eval s = v) (hown : OwnL W base v l)
    (y : ByteArray) (hx : a.eval x = .string y) (hl : l.length + y.size ≤ 1000000000) (hb : base ≤ W.heap.size)
    (h : ∀ v' w', OwnL w' base v' (l ++ Pg.txt y) → Ra base (l ++ Pg.txt y) W w' → wpList Try.prog ops Q rest (a.put o.dst v') w') : wpList Try.prog ops Q (o :: rest) a W := by
  obtain ⟨v', w', hr, ho'⟩ := run_app_str hown hl o.type
  obtain ⟨h1, h2⟩ := ho'.own hown hb
  refine wpList_plain hgd fun K hK => ?_
  unfold Oper.wp execOp
  simp only [ho, resolve, invoke, builtin, Sem.run_bind, Sem.run_pure, Result.andThen_ok, List.map_toArray, List.map_cons, List.map_nil, hs, hx, hr]
  exact hK _ _ (h v' w' h1 h2)
def ExB (x : Pg.Ex) : Prop := ∀ (base : Nat) (w : World) (v : Value) (l : List Int) (a1 : Option Addr) (k1 : Nat), OwnL w base v l → R64 x.n → ExL (fun k => k < base) w a1 k1 x.args → x.dl.may = true → l.length + x.dl.en.length ≤ 1000000000 → base ≤ w.heap.size →
  Calls Try.prog 74 #[v, .agg #[.int .i64 x.op, .int .i64 x.t, .int .i64 x.n, .string x.s, .slice a1 x.args.length k1]] w (BtP base w l x.dl.en)
def ExsB (z : List Pg.Ex) : Prop := ∀ (base : Nat) (w : World) (v : Value) (l : List Int) (a : Option Addr) (c : Nat), OwnL w base v l → ExL (fun k => k < base) w a c z → (Pg.dExL z).may = true → l.length + (Pg.dExL z).en.length ≤ 1000000000 → base ≤ w.heap.size →
  Calls Try.prog 55 #[v, .slice a z.length c] w (BtP base w l (Pg.dExL z).en)
theorem Pg.Ex.parts (x : Pg.Ex) (h : x.dl.may = true) : Pg.okB x.op = true ∧ Pg.okB x.t = true ∧ x.s.size ≤ 256 ∧ Pg.okB (x.s.size : Int) = true ∧ (Pg.dExL x.args).may = true ∧ x.dl.en = (Pg.dCnt x.op).en ++ (Pg.dCnt x.t).en ++ (Pg.dNum x.n).en ++ (Pg.dCnt (x.s.size : Int)).en ++ Pg.txt x.s ++ (Pg.dExL x.args).en := by
  rw [Pg.Ex.dl_eq] at h ⊢
  simp only [Pg.Dl.node, Pg.Dl.app, Bool.and_eq_true] at h ⊢
  obtain ⟨h1, h2, h3, h4, h5⟩ := h
  have hs : x.s.size ≤ 256 := by
    unfold Pg.dTxt at h4
    by_cases hs : x.s.size ≤ 256
    · exact hs
    · rw [if_neg hs] at h4; cases h4
  have hok : Pg.okB (x.s.size : Int) = true := by simp [Pg.okB]; omega
  refine ⟨by rw [← dCnt_may]; exact h1, by rw [← dCnt_may]; exact h2, hs, hok, h5, ?_⟩
  have e : (Pg.dTxt x.s).en = (Pg.dCnt (x.s.size : Int)).en ++ Pg.txt x.s := by simp [Pg.dTxt, hs, Pg.dCnt, hok]
  rw [e]
  simp only [List.append_assoc]
set_option maxRecDepth 100000 in
set_option maxHeartbeats 16000000 in
theorem expr_one (x : Pg.Ex) (ih : ExsB x.args) : ExB x := by
  intro base w v l a1 k1 ho hn ha hm hl hb
  obtain ⟨q1, q2, q3, q4, q5, q6⟩ := Pg.Ex.parts x hm
  rw [q6] at hl ⊢
  obtain ⟨ao, cp, rfl, _⟩ := ho.toB.shape
  obtain ⟨W1, hW1⟩ : ∃ W1, W1 = w.alloc (.cells #[.int .i64 x.op, .int .i64 x.t, .int .i64 x.n, .string x.s, .slice a1 x.args.length k1] 94) := ⟨_, rfl⟩
  have HW1 : Hid (W1 = w.alloc (.cells #[.int .i64 x.op, .int .i64 x.t, .int .i64 x.n, .string x.s, .slice a1 x.args.length k1] 94)) := hW1
  have g1 : w.grownBy W1 none := by rw [hW1]; exact World.grownBy_alloc _ _ _
  have HG1 : Hid (w.grownBy W1 none) := g1
  have HB : Hid (W1.heap[w.heap.size]? = some (.cells #[.int .i64 x.op, .int .i64 x.t, .int .i64 x.n, .string x.s, .slice a1 x.args.length k1] 94)) := by show _ = _; rw [hW1]; exact heap_alloc_new w _
  have HO : Hid (OwnL W1 base (.slice ao l.length cp) l) := ho.kept g1 (Classical.em _)
  have hbase : base ≤ W1.heap.size := Nat.le_trans hb g1.size
  have HA : ExL (fun k => k < base) W1 a1 k1 x.args := ExL.grow ha g1
  obtain ⟨L1, hL1⟩ : ∃ z, z = l ++ (Pg.dCnt x.op).en := ⟨_, rfl⟩
  obtain ⟨L2, hL2⟩ : ∃ z, z = L1 ++ (Pg.dCnt x.t).en := ⟨_, rfl⟩
  obtain ⟨L3, hL3⟩ : ∃ z, z = L2 ++ (Pg.dNum x.n).en := ⟨_, rfl⟩
  obtain ⟨L4, hL4⟩ : ∃ z, z = L3 ++ (Pg.dCnt (x.s.size : Int)).en := ⟨_, rfl⟩
  obtain ⟨L5, hL5⟩ : ∃ z, z = L4 ++ Pg.txt x.s := ⟨_, rfl⟩
  obtain ⟨L6, hL6⟩ : ∃ z, z = L5 ++ (Pg.dExL x.args).en := ⟨_, rfl⟩
  have TOT : Hid (l ++ ((Pg.dCnt x.op).en ++ (Pg.dCnt x.t).en ++ (Pg.dNum x.n).en ++ (Pg.dCnt (x.s.size : Int)).en ++ Pg.txt x.s ++ (Pg.dExL x.args).en) = L6) := by
    show _ = _
    rw [hL6, hL5, hL4, hL3, hL2, hL1]
    simp only [List.append_assoc]
  have hLN := hl
  simp only [List.length_append] at hLN
  have NN1 : l.length + ((Pg.dCnt x.op).en).length ≤ 1000000000 := by
    try simp only [List.length_append]
    omega
  have PP01 : Hid (l <+: L1) := pre_eq hL1
  have C1 : Hid (∀ W v, Ch W1 W (List.range' base (W1.heap.size - base)) → OwnL W base v l → base ≤ W.heap.size → Calls Try.prog 28 #[v, .int .i64 x.op] W (BtQ base W L1)) := fun W v hR h hb => BtP.q (count8 h q1 NN1 hb) hL1
  have NN2 : L1.length + ((Pg.dCnt x.t).en).length ≤ 1000000000 := by
    rw [hL1]
    try simp only [List.length_append]
    omega
  have PP12 : Hid (L1 <+: L2) := pre_eq hL2
  have C2 : Hid (∀ W v, Ch W1 W (List.range' base (W1.heap.size - base)) → OwnL W base v L1 → base ≤ W.heap.size → Calls Try.prog 28 #[v, .int .i64 x.t] W (BtQ base W L2)) := fun W v hR h hb => BtP.q (count8 h q2 NN2 hb) hL2
  have NN3 : L2.length + ((Pg.dNum x.n).en).length ≤ 1000000000 := by
    rw [hL2, hL1]
    try simp only [List.length_append]
    omega
  have PP23 : Hid (L2 <+: L3) := pre_eq hL3
  have C3 : Hid (∀ W v, Ch W1 W (List.range' base (W1.heap.size - base)) → OwnL W base v L2 → base ≤ W.heap.size → Calls Try.prog 56 #[v, .int .i64 x.n] W (BtQ base W L3)) := fun W v hR h hb => BtP.q (number8 h hn NN3 hb) hL3
  have NN4 : L3.length + ((Pg.dCnt (x.s.size : Int)).en).length ≤ 1000000000 := by
    rw [hL3, hL2, hL1]
    try simp only [List.length_append]
    omega
  have PP34 : Hid (L3 <+: L4) := pre_eq hL4
  have C4 : Hid (∀ W v, Ch W1 W (List.range' base (W1.heap.size - base)) → OwnL W base v L3 → base ≤ W.heap.size → Calls Try.prog 28 #[v, .int .i64 (x.s.size : Int)] W (BtQ base W L4)) := fun W v hR h hb => BtP.q (count8 h q4 NN4 hb) hL4
  have NN5 : L4.length + (Pg.txt x.s).length ≤ 1000000000 := by
    rw [hL4, hL3, hL2, hL1]
    try simp only [List.length_append]
    omega
  have PP45 : Hid (L4 <+: L5) := pre_eq hL5
  have NN6 : L5.length + ((Pg.dExL x.args).en).length ≤ 1000000000 := by
    rw [hL5, hL4, hL3, hL2, hL1]
    try simp only [List.length_append]
    omega
  have PP56 : Hid (L5 <+: L6) := pre_eq hL6
  have C6 : Hid (∀ W v, Ch W1 W (List.range' base (W1.heap.size - base)) → OwnL W base v L5 → base ≤ W.heap.size → Calls Try.prog 55 #[v, .slice a1 x.args.length k1] W (BtQ base W L6)) := fun W v hR h hb => BtP.q (ih base W v L5 a1 k1 h (ExL.ch HA hR (fun k hk => not_rangeB hk) (fun _ h => h)) q5 NN6 hb) hL6
  have N5 : Hid (L4.length + x.s.size ≤ 1000000000) := by show _ ≤ _; rw [← Pg.txt_len]; exact NN5
  have HL5 : Hid (L5 = L4 ++ Pg.txt x.s) := hL5
  clear ho hn ha hm hl ih q1 q2 q3 q4 q5 q6 hW1 g1 HA hL1 hL2 hL3 hL4 hL5 hL6 hLN NN1 NN2 NN3 NN4 NN5 NN6
  go_enter Try.func74, Try.ntmps74
  go_wp2_with fail
  rw [← HW1.out]
  refine region_rel (Ra base (L3)) (fun h1 h2 => Ra.trans h1 h2) (fun w => Ra.refl _ _ w) 10 (psiL [eqV (.slice ao l.length cp), eqV (.pointer (some ⟨w.heap.size, 0, none⟩)), eqV (.int .i64 (x.op)), rowV base (L1), eqV (.pointer (some ⟨w.heap.size, 1, none⟩)), eqV (.int .i64 (x.t)), rowV base (L2), eqV (.pointer (some ⟨w.heap.size, 2, none⟩)), eqV (.int .i64 (x.n)), rowV base (L3)]) (by kernel_rfl) (by kernel_rfl) (by kernel_rfl) (by kernel_rfl) (psiLR_hst (by repeat (first | exact stabLR_nil | refine stabLR_cons ?_ ?_ | exact stabR_eq _ _ | exact stabR_row ((PP12.out.trans (PP23.out))) | exact stabR_row ((PP23.out)) | exact stabR_row (List.prefix_refl _)))) ?_ ?_
  · simp only [List.take_succ_cons, List.take_zero]
    refine ⟨?_, ?_, ?_, ?_, ?_, ?_, ?_, ?_, ?_, ?_, trivial⟩
    · intro VV W0 AA g hV hs hz
      have gR : Rb base (L3) W1 W0 := ((raDrew base (L3) W1).trans g).rb
      have e00 := hz 0 (.slice ao l.length cp) (by kernel_rfl) rfl
      clear hV hs hz
      refine outR_val (by kernel_rfl) (v := .slice ao l.length cp) (w' := W0) ?_ (Ra.refl _ _ _) rfl
      simp [go_sem, e00]
    · intro VV W0 AA g hV hs hz
      have gR : Rb base (L3) W1 W0 := ((raDrew base (L3) W1).trans g).rb
      have e03 := hz 3 (.pointer (some ⟨w.heap.size, 0, none⟩)) (by kernel_rfl) rfl
      clear hV hs hz
      refine outR_val (by kernel_rfl) (v := .pointer (some ⟨w.heap.size, 0, none⟩)) (w' := W0) ?_ (Ra.refl _ _ _) rfl
      simp [go_sem, e03]
    · intro VV W0 AA g hV hs hz
      have gR : Rb base (L3) W1 W0 := ((raDrew base (L3) W1).trans g).rb
      have q1 : VV 1 = .pointer (some ⟨w.heap.size, 0, none⟩) := hV 1 (by kernel_rfl)
      have e1 := hs 6 1 (by kernel_rfl) (by kernel_rfl)
      have x0 := (gR).cell HB.out (Kb.of (by decide)) 0
      clear hV hs hz
      refine outR_val (by kernel_rfl) (v := .int .i64 (x.op)) (w' := W0) ?_ (Ra.refl _ _ _) rfl
      simp [go_sem, q1, e1, x0]
    · intro VV W0 AA g hV hs hz
      have gR : Rb base (L3) W1 W0 := ((raDrew base (L3) W1).trans g).rb
      have q0 : VV 0 = .slice ao l.length cp := hV 0 (by kernel_rfl)
      have e0 := hs 5 0 (by kernel_rfl) (by kernel_rfl)
      have q2 : VV 2 = .int .i64 (x.op) := hV 2 (by kernel_rfl)
      have e2 := hs 7 2 (by kernel_rfl) (by kernel_rfl)
      clear hV hs hz
      refine outR_call (by kernel_rfl) (f := 28) ?_ ((C1.out W0 _ (gR.ch) (gR.own _ _ (PP01.out.trans (PP12.out.trans (PP23.out))) HO.out) (Nat.le_trans hbase gR.size)).mono fun e w2 ⟨v, he, ho, hr⟩ => ⟨v, he, Ra.mono hr ((PP12.out.trans (PP23.out))), ho, Nat.le_trans (Nat.le_trans hbase gR.size) (hr _ (List.prefix_refl _)).size⟩)
      simp [go_sem, q0, e0, q2, e2]
    · intro VV W0 AA g hV hs hz
      have gR : Rb base (L3) W1 W0 := ((raDrew base (L3) W1).trans g).rb
      have e03 := hz 3 (.pointer (some ⟨w.heap.size, 0, none⟩)) (by kernel_rfl) rfl
      clear hV hs hz
      refine outR_val (by kernel_rfl) (v := .pointer (some ⟨w.heap.size, 1, none⟩)) (w' := W0) ?_ (Ra.refl _ _ _) rfl
      simp [go_sem, e03]
    · intro VV W0 AA g hV hs hz
      have gR : Rb base (L3) W1 W0 := ((raDrew base (L3) W1).trans g).rb
      have q4 : VV 4 = .pointer (some ⟨w.heap.size, 1, none⟩) := hV 4 (by kernel_rfl)
      have e4 := hs 9 4 (by kernel_rfl) (by kernel_rfl)
      have x0 := (gR).cell HB.out (Kb.of (by decide)) 1
      clear hV hs hz
      refine outR_val (by kernel_rfl) (v := .int .i64 (x.t)) (w' := W0) ?_ (Ra.refl _ _ _) rfl
      simp [go_sem, q4, e4, x0]
    · intro VV W0 AA g hV hs hz
      have gR : Rb base (L3) W1 W0 := ((raDrew base (L3) W1).trans g).rb
      have p3 : rowV base (L1) (VV 3) W0 := hV 3 (by kernel_rfl)
      have e3 := hs 8 3 (by kernel_rfl) (by kernel_rfl)
      have q5 : VV 5 = .int .i64 (x.t) := hV 5 (by kernel_rfl)
      have e5 := hs 10 5 (by kernel_rfl) (by kernel_rfl)
      clear hV hs hz
      refine outR_call (by kernel_rfl) (f := 28) ?_ ((C2.out W0 _ (gR.ch) (p3.1) (p3.2)).mono fun e w2 ⟨v, he, ho, hr⟩ => ⟨v, he, Ra.mono hr ((PP23.out)), ho, Nat.le_trans (Nat.le_trans hbase gR.size) (hr _ (List.prefix_refl _)).size⟩)
      simp [go_sem, e3, q5, e5]
    · intro VV W0 AA g hV hs hz
      have gR : Rb base (L3) W1 W0 := ((raDrew base (L3) W1).trans g).rb
      have e03 := hz 3 (.pointer (some ⟨w.heap.size, 0, none⟩)) (by kernel_rfl) rfl
      clear hV hs hz
      refine outR_val (by kernel_rfl) (v := .pointer (some ⟨w.heap.size, 2, none⟩)) (w' := W0) ?_ (Ra.refl _ _ _) rfl
      simp [go_sem, e03]
    · intro VV W0 AA g hV hs hz
      have gR : Rb base (L3) W1 W0 := ((raDrew base (L3) W1).trans g).rb
      have q7 : VV 7 = .pointer (some ⟨w.heap.size, 2, none⟩) := hV 7 (by kernel_rfl)
      have e7 := hs 12 7 (by kernel_rfl) (by kernel_rfl)
      have x0 := (gR).cell HB.out (Kb.of (by decide)) 2
      clear hV hs hz
      refine outR_val (by kernel_rfl) (v := .int .i64 (x.n)) (w' := W0) ?_ (Ra.refl _ _ _) rfl
      simp [go_sem, q7, e7, x0]
    · intro VV W0 AA g hV hs hz
      have gR : Rb base (L3) W1 W0 := ((raDrew base (L3) W1).trans g).rb
      have p6 : rowV base (L2) (VV 6) W0 := hV 6 (by kernel_rfl)
      have e6 := hs 11 6 (by kernel_rfl) (by kernel_rfl)
      have q8 : VV 8 = .int .i64 (x.n) := hV 8 (by kernel_rfl)
      have e8 := hs 13 8 (by kernel_rfl) (by kernel_rfl)
      clear hV hs hz
      refine outR_call (by kernel_rfl) (f := 56) ?_ ((C3.out W0 _ (gR.ch) (p6.1) (p6.2)).mono fun e w2 ⟨v, he, ho, hr⟩ => ⟨v, he, Ra.mono hr (List.prefix_refl _), ho, Nat.le_trans (Nat.le_trans hbase gR.size) (hr _ (List.prefix_refl _)).size⟩)
      simp [go_sem, e6, q8, e8]
  · intro VV W0 g hV
    have gA : Ra base (L3) W1 W0 := (raDrew base (L3) W1).trans g
    have h0 : VV 0 = .slice ao l.length cp := hV 0 (by decide)
    have h1 : VV 1 = .pointer (some ⟨w.heap.size, 0, none⟩) := hV 1 (by decide)
    have h2 : VV 2 = .int .i64 (x.op) := hV 2 (by decide)
    obtain ⟨p3, _⟩ : rowV base (L1) (VV 3) W0 := hV 3 (by decide)
    obtain ⟨aa3, cc3, h3, _⟩ := p3.toB.shape
    rw [h3] at p3
    have h4 : VV 4 = .pointer (some ⟨w.heap.size, 1, none⟩) := hV 4 (by decide)
    have h5 : VV 5 = .int .i64 (x.t) := hV 5 (by decide)
    obtain ⟨p6, _⟩ : rowV base (L2) (VV 6) W0 := hV 6 (by decide)
    obtain ⟨aa6, cc6, h6, _⟩ := p6.toB.shape
    rw [h6] at p6
    have h7 : VV 7 = .pointer (some ⟨w.heap.size, 2, none⟩) := hV 7 (by decide)
    have h8 : VV 8 = .int .i64 (x.n) := hV 8 (by decide)
    obtain ⟨p9, _⟩ : rowV base (L3) (VV 9) W0 := hV 9 (by decide)
    obtain ⟨aa9, cc9, h9, _⟩ := p9.toB.shape
    rw [h9] at p9
    simp [frV, dstOf, Act.put, h0, h1, h2, h3, h4, h5, h6, h7, h8, h9]
    clear h0 h1 h2 h3 h4 h5 h6 h7 h8 h9 hV g
    have P3 : Hid (OwnL W0 base (.slice aa3 (L1).length cc3) (L1)) := p3
    have P6 : Hid (OwnL W0 base (.slice aa6 (L2).length cc6) (L2)) := p6
    have P9 : Hid (OwnL W0 base (.slice aa9 (L3).length cc9) (L3)) := p9
    clear p3 p6 p9
    have GA : Hid (Ra base (L3) W1 W0) := gA
    clear gA
    obtain ⟨W2, hW2⟩ : ∃ z, z = W0 := ⟨_, rfl⟩
    subst hW2
    have HR2 : Hid (Ra base L3 W1 W2) := GA.out
    have HO3 : Hid (OwnL W2 base (.slice aa9 L3.length cc9) L3) := P9.out
    have hb2 : base ≤ W2.heap.size := Nat.le_trans hbase HR2.out.rb.size
    clear P3 P6 P9 GA
    go_wp2_with fail
    refine region_rel (Ra base (L4)) (fun h1 h2 => Ra.trans h1 h2) (fun w => Ra.refl _ _ w) 7 (psiL [eqV (.slice aa9 L3.length cc9), eqV (.pointer (some ⟨w.heap.size, 3, none⟩)), eqV (.string x.s), eqV (.int .i64 (x.s.size : Int)), rowV base (L4), eqV (.pointer (some ⟨w.heap.size, 3, none⟩)), eqV (.string x.s)]) (by kernel_rfl) (by kernel_rfl) (by kernel_rfl) (by kernel_rfl) (psiLR_hst (by repeat (first | exact stabLR_nil | refine stabLR_cons ?_ ?_ | exact stabR_eq _ _ | exact stabR_row (List.prefix_refl _)))) ?_ ?_
    · simp only [List.take_succ_cons, List.take_zero]
      refine ⟨?_, ?_, ?_, ?_, ?_, ?_, ?_, trivial⟩
      · intro VV W0 AA g hV hs hz
        have gR : Rb base (L4) W2 W0 := ((raDrew base (L4) W2).trans g).rb
        have e00 := hz 0 (.slice aa9 L3.length cc9) (by kernel_rfl) rfl
        clear hV hs hz
        refine outR_val (by kernel_rfl) (v := .slice aa9 L3.length cc9) (w' := W0) ?_ (Ra.refl _ _ _) rfl
        simp [go_sem, e00]
      · intro VV W0 AA g hV hs hz
        have gR : Rb base (L4) W2 W0 := ((raDrew base (L4) W2).trans g).rb
        have e03 := hz 3 (.pointer (some ⟨w.heap.size, 0, none⟩)) (by kernel_rfl) rfl
        clear hV hs hz
        refine outR_val (by kernel_rfl) (v := .pointer (some ⟨w.heap.size, 3, none⟩)) (w' := W0) ?_ (Ra.refl _ _ _) rfl
        simp [go_sem, e03]
      · intro VV W0 AA g hV hs hz
        have gR : Rb base (L4) W2 W0 := ((raDrew base (L4) W2).trans g).rb
        have q1 : VV 1 = .pointer (some ⟨w.heap.size, 3, none⟩) := hV 1 (by kernel_rfl)
        have e1 := hs 16 1 (by kernel_rfl) (by kernel_rfl)
        have x0 := (HR2.out.trans_rb gR (PP34.out)).cell HB.out (Kb.of (by decide)) 3
        clear hV hs hz
        refine outR_val (by kernel_rfl) (v := .string x.s) (w' := W0) ?_ (Ra.refl _ _ _) rfl
        simp [go_sem, q1, e1, x0]
      · intro VV W0 AA g hV hs hz
        have gR : Rb base (L4) W2 W0 := ((raDrew base (L4) W2).trans g).rb
        have q2 : VV 2 = .string x.s := hV 2 (by kernel_rfl)
        have e2 := hs 17 2 (by kernel_rfl) (by kernel_rfl)
        clear hV hs hz
        refine outR_val (by kernel_rfl) (v := .int .i64 (x.s.size : Int)) (w' := W0) ?_ (Ra.refl _ _ _) rfl
        simp [go_sem, q2, e2]
      · intro VV W0 AA g hV hs hz
        have gR : Rb base (L4) W2 W0 := ((raDrew base (L4) W2).trans g).rb
        have q0 : VV 0 = .slice aa9 L3.length cc9 := hV 0 (by kernel_rfl)
        have e0 := hs 15 0 (by kernel_rfl) (by kernel_rfl)
        have q3 : VV 3 = .int .i64 (x.s.size : Int) := hV 3 (by kernel_rfl)
        have e3 := hs 18 3 (by kernel_rfl) (by kernel_rfl)
        clear hV hs hz
        refine outR_call (by kernel_rfl) (f := 28) ?_ ((C4.out W0 _ ((HR2.out.trans_rb gR (PP34.out)).ch) (gR.own _ _ (PP34.out) HO3.out) (Nat.le_trans hb2 gR.size)).mono fun e w2 ⟨v, he, ho, hr⟩ => ⟨v, he, Ra.mono hr (List.prefix_refl _), ho, Nat.le_trans (Nat.le_trans hb2 gR.size) (hr _ (List.prefix_refl _)).size⟩)
        simp [go_sem, q0, e0, q3, e3]
      · intro VV W0 AA g hV hs hz
        have gR : Rb base (L4) W2 W0 := ((raDrew base (L4) W2).trans g).rb
        have e03 := hz 3 (.pointer (some ⟨w.heap.size, 0, none⟩)) (by kernel_rfl) rfl
        clear hV hs hz
        refine outR_val (by kernel_rfl) (v := .pointer (some ⟨w.heap.size, 3, none⟩)) (w' := W0) ?_ (Ra.refl _ _ _) rfl
        simp [go_sem, e03]
      · intro VV W0 AA g hV hs hz
        have gR : Rb base (L4) W2 W0 := ((raDrew base (L4) W2).trans g).rb
        have q5 : VV 5 = .pointer (some ⟨w.heap.size, 3, none⟩) := hV 5 (by kernel_rfl)
        have e5 := hs 20 5 (by kernel_rfl) (by kernel_rfl)
        have x0 := (HR2.out.trans_rb gR (PP34.out)).cell HB.out (Kb.of (by decide)) 3
        clear hV hs hz
        refine outR_val (by kernel_rfl) (v := .string x.s) (w' := W0) ?_ (Ra.refl _ _ _) rfl
        simp [go_sem, q5, e5, x0]
    · intro VV W0 g hV
      have gA : Ra base (L4) W2 W0 := (raDrew base (L4) W2).trans g
      have h0 : VV 0 = .slice aa9 L3.length cc9 := hV 0 (by decide)
      have h1 : VV 1 = .pointer (some ⟨w.heap.size, 3, none⟩) := hV 1 (by decide)
      have h2 : VV 2 = .string x.s := hV 2 (by decide)
      have h3 : VV 3 = .int .i64 (x.s.size : Int) := hV 3 (by decide)
      obtain ⟨p4, _⟩ : rowV base (L4) (VV 4) W0 := hV 4 (by decide)
      obtain ⟨aa4, cc4, h4, _⟩ := p4.toB.shape
      rw [h4] at p4
      have h5 : VV 5 = .pointer (some ⟨w.heap.size, 3, none⟩) := hV 5 (by decide)
      have h6 : VV 6 = .string x.s := hV 6 (by decide)
      simp [frV, dstOf, Act.put, h0, h1, h2, h3, h4, h5, h6]
      clear h0 h1 h2 h3 h4 h5 h6 hV g
      have P4 : Hid (OwnL W0 base (.slice aa4 (L4).length cc4) (L4)) := p4
      clear p4
      have GA : Hid (Ra base (L4) W2 W0) := gA
      clear gA
      have hb4 : base ≤ W0.heap.size := Nat.le_trans hb2 GA.out.rb.size
      have R4 : Hid (Ra base L4 W1 W0) := (HR2.out.mono (PP34.out)).trans GA.out
      go_wp2_with (at_builtin; refine wp_rbStr rfl _ _ rfl base _ L4 rfl P4.out x.s rfl N5.out hb4 ?_; intro u w5 ho5 hr5; rw [← HL5.out] at ho5 hr5; obtain ⟨a5, c5, rfl, _⟩ := ho5.toB.shape; have O5 : Hid (OwnL w5 base (.slice a5 L5.length c5) L5) := ho5; have R5 : Hid (Ra base L5 W1 w5) := (R4.out.mono (PP45.out)).trans hr5; have m4 : w5.cell? ⟨w.heap.size, 4, none⟩ = some (.slice a1 x.args.length k1) := R5.out.rb.cell HB.out (Kb.of (by decide)) 4; have HC : Hid (Calls Try.prog 55 #[.slice a5 L5.length c5, .slice a1 x.args.length k1] w5 (BtQ base w5 L6)) := C6.out w5 _ R5.out.rb.ch ho5 (Nat.le_trans hbase R5.out.rb.size); clear ho5 hr5)
      go_wp2_with (go_at_call 55; refine HC.out.mono ?_; rintro e w6 ⟨u, rfl, ho6, hr6⟩; have O6 := ho6; have R6 := hr6; clear ho6 hr6 HC)
      go_ret
      refine ⟨_, rfl, by rw [TOT.out]; exact O6, ?_⟩
      intro T hT
      rw [TOT.out] at hT
      exact ((Rb.of HG1.out).trans (R5.out T ((PP56.out).trans hT))).trans (R6 T hT)
set_option maxRecDepth 100000 in
set_option maxHeartbeats 8000000 in
theorem exprs_list8 (z : List Pg.Ex) (ih : ∀ x, x ∈ z → ExB x) : ExsB z := by
  intro base w v l a c h hz hm hl hb
  have hle := hz.le
  have hmx := hz.max
  unfold maxLen at hmx
  rw [Pg.dExL, Pg.dEs_cat] at hm hl ⊢
  simp only [Pg.Dl.app, Bool.and_eq_true, List.length_append] at hm hl
  have HZ : Hid (ExL (fun k => k < base) w a c z) := hz
  have HM : Hid ((Pg.dCat Pg.Ex.dl z).may = true) := hm.2
  have HL : Hid (l.length + ((Pg.dCnt z.length).en.length + (Pg.dCat Pg.Ex.dl z).en.length) ≤ 1000000000) := hl
  have HI : Hid (∀ x, x ∈ z → ExB x) := ih
  have hok : Pg.okB (z.length : Int) = true := by rw [← dCnt_may]; exact hm.1
  have hl1 : l.length + (Pg.dCnt (z.length : Int)).en.length ≤ 1000000000 := by
    generalize (Pg.dCnt (z.length : Int)).en.length = A at *
    generalize (Pg.dCat Pg.Ex.dl z).en.length = C at *
    omega
  have HC : Hid (Calls Try.prog 28 #[v, .int .i64 (z.length : Int)] w (BtP base w l (Pg.dCnt (z.length : Int)).en)) := count8 h hok hl1 hb
  clear hok hl1
  show Calls Try.prog 55 #[v, .slice a z.length c] w (BtP base w l ((Pg.dCnt z.length).en ++ (Pg.dCat Pg.Ex.dl z).en))
  clear h hm hl hz ih
  go_enter Try.func55, Try.ntmps55
  go_wp2_with (go_at_call 28; refine HC.out.mono ?_; rintro e w4 ⟨u, rfl, ho4, hr4⟩; obtain ⟨a4, c4, rfl, _⟩ := ho4.toB.shape; have O4 : Hid (OwnL w4 base (.slice a4 (l ++ (Pg.dCnt z.length).en).length c4) (l ++ (Pg.dCnt z.length).en)) := ho4; have R4 : Hid (∀ T, l ++ (Pg.dCnt z.length).en <+: T → Rb base T w w4) := hr4; clear ho4 hr4 HC)
  go_loopw [0, 5] (fun bv ix wr => ∃ (k : Nat) (a' : Option Addr) (c' : Nat), bv = .slice a' (l ++ (Pg.dCnt z.length).en ++ (Pg.dCat Pg.Ex.dl (z.take k)).en).length c' ∧ ix = .int .i64 k ∧ k ≤ z.length ∧ OwnL wr base (.slice a' (l ++ (Pg.dCnt z.length).en ++ (Pg.dCat Pg.Ex.dl (z.take k)).en).length c') (l ++ (Pg.dCnt z.length).en ++ (Pg.dCat Pg.Ex.dl (z.take k)).en) ∧ (∀ T, l ++ (Pg.dCnt z.length).en ++ (Pg.dCat Pg.Ex.dl (z.take k)).en <+: T → Rb base T w wr)) (fun _ ix _ => z.length - (intOf ix).toNat)
  case atStart => exact ⟨0, a4, c4, by simp [Pg.dCat, Pg.Dl.nil], rfl, Nat.zero_le _, by simpa [Pg.dCat, Pg.Dl.nil] using O4.out, by simpa [Pg.dCat, Pg.Dl.nil] using R4.out⟩
  case round =>
    obtain ⟨k, a', c', rfl, rfl, hk, ho, hr⟩ := hrel
    have HR : Hid (∀ T, l ++ (Pg.dCnt z.length).en ++ (Pg.dCat Pg.Ex.dl (z.take k)).en <+: T → Rb base T w wr) := hr
    by_cases hkn : k < z.length
    case neg =>
      obtain rfl : k = z.length := by omega
      have HO : Hid (OwnL wr base (.slice a' (l ++ (Pg.dCnt z.length).en ++ (Pg.dCat Pg.Ex.dl (z.take z.length)).en).length c') (l ++ (Pg.dCnt z.length).en ++ (Pg.dCat Pg.Ex.dl (z.take z.length)).en)) := ho
      clear ho hr
      generalize hLL : (l ++ (Pg.dCnt z.length).en ++ (Pg.dCat Pg.Ex.dl (z.take z.length)).en).length = LL at *
      go_wp2
      go_ret
      have e : l ++ ((Pg.dCnt z.length).en ++ (Pg.dCat Pg.Ex.dl z).en) = l ++ (Pg.dCnt z.length).en ++ (Pg.dCat Pg.Ex.dl (z.take z.length)).en := by rw [List.take_length, List.append_assoc]
      refine ⟨_, rfl, by rw [e]; exact HO.out, fun T hT => HR.out T (by rw [← e]; exact hT)⟩
    have hkn' : (k : Int) < z.length := by omega
    have hrow : ExL (fun k => k < base) wr a c z := ExL.ch HZ.out (hr _ (List.prefix_refl _)).ch (fun k hk => not_rangeB hk) (fun _ h => h)
    obtain ⟨b, o, rfl, hbb, hx⟩ := hrow.at hkn
    have hsz : base ≤ wr.heap.size := Nat.le_trans hb (hr _ (List.prefix_refl _)).size
    have hsc := Pg.dCat_succ Pg.Ex.dl hkn
    obtain ⟨_, _, q3, q4⟩ := Pg.dCat_le Pg.Ex.dl z (k + 1)
    have hmk := q4 HM.out
    rw [hsc] at q3 hmk
    simp only [Pg.Dl.app, Bool.and_eq_true, List.length_append] at q3 hmk
    have HS : Hid (l ++ (Pg.dCnt z.length).en ++ (Pg.dCat Pg.Ex.dl (z.take (k + 1))).en = l ++ (Pg.dCnt z.length).en ++ (Pg.dCat Pg.Ex.dl (z.take k)).en ++ (Pg.Ex.dl z[k]).en) := by
      show _ = _
      rw [hsc, Pg.Dl.app, List.append_assoc _ (Pg.dCat Pg.Ex.dl (z.take k)).en]
    have hlen : (l ++ (Pg.dCnt z.length).en ++ (Pg.dCat Pg.Ex.dl (z.take k)).en).length + (Pg.Ex.dl z[k]).en.length ≤ 1000000000 := by
      have := HL.out
      simp only [List.length_append]
      omega
    generalize hLL : l ++ (Pg.dCnt z.length).en ++ (Pg.dCat Pg.Ex.dl (z.take k)).en = L at *
    obtain ⟨a1, k1, he⟩ := hx.row
    have c0 := he.c0
    have c1 := he.c1
    have c2 := he.c2
    have c3 := he.c3
    have c4' := he.c4
    have HC : Hid (Calls Try.prog 74 #[.slice a' L.length c', .agg #[.int .i64 z[k].op, .int .i64 z[k].t, .int .i64 z[k].n, .string z[k].s, .slice a1 z[k].args.length k1]] wr (BtP base wr L (Pg.Ex.dl z[k]).en)) := HI.out z[k] (List.getElem_mem hkn) base wr _ L a1 k1 ho he.rg he.args hmk.2 hlen hsz
    clear ho hr hx hrow hsc q3 q4 hmk hlen he
    generalize z[k] = y at *
    go_wp2_with (go_at_call 74; refine HC.out.mono ?_; rintro e w6 ⟨u, rfl, ho6, hr6⟩; obtain ⟨a6, c6, rfl, _⟩ := ho6.toB.shape; have O6 : Hid (OwnL w6 base (.slice a6 (L ++ y.dl.en).length c6) (L ++ y.dl.en)) := ho6; have R6 : Hid (∀ T, L ++ y.dl.en <+: T → Rb base T wr w6) := hr6; clear ho6 hr6 HC)
    go_roundw
    case rel =>
      refine ⟨k + 1, a6, c6, ?_, by go_num, by omega, ?_, ?_⟩
      · rw [HS.out]; rw [List.length_append]
      · rw [HS.out]; exact O6.out
      · intro T hT
        rw [HS.out] at hT
        exact (HR.out T (pre_app hT)).trans (R6.out T hT)
    case measure => simp [intOf]; omega
theorem expr8_any (x : Pg.Ex) : ExB x := Pg.Ex.ind (P := ExB) (fun op t n s args ih => expr_one (.mk op t n s args) (exprs_list8 args ih)) x
theorem exprs8_any (z : List Pg.Ex) : ExsB z := exprs_list8 z fun x _ => expr8_any x
end Go.Proofs.Ytljdjkiejppenaa
