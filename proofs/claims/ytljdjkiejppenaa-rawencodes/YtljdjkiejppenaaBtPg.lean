/- gantryref8.Bytes. -/
import Derived.Test.YtljdjkiejppenaaBtSt
namespace Go.Proofs.Ytljdjkiejppenaa
open Go.RowKit
set_option linter.unusedVariables false

theorem Pg.Tp.parts (x : Pg.Tp) (h : x.dl.may = true) : Pg.okB x.kind = true ∧ Pg.okB x.elem = true ∧ Pg.okB x.n = true ∧ (Pg.dNumL x.fields).may = true ∧ x.dl.en = (Pg.dCnt x.kind).en ++ (Pg.dCnt x.elem).en ++ (Pg.dCnt x.n).en ++ (Pg.dNumL x.fields).en := by
  rw [Pg.Tp.dl] at h ⊢
  simp only [Pg.Dl.app, Bool.and_eq_true] at h ⊢
  obtain ⟨h1, h2, h3, h4⟩ := h
  refine ⟨by rw [← dCnt_may]; exact h1, by rw [← dCnt_may]; exact h2, by rw [← dCnt_may]; exact h3, h4, ?_⟩
  simp only [List.append_assoc]
theorem Pg.Fn.parts (x : Pg.Fn) (h : x.dl.may = true) : Pg.okB x.params = true ∧ (Pg.dNumL x.locals).may = true ∧ (Pg.dNumL x.results).may = true ∧ (Pg.dStL x.body).may = true ∧ x.dl.en = (Pg.dCnt x.params).en ++ (Pg.dNumL x.locals).en ++ (Pg.dNumL x.results).en ++ (Pg.dStL x.body).en := by
  rw [Pg.Fn.dl] at h ⊢
  simp only [Pg.Dl.app, Bool.and_eq_true] at h ⊢
  obtain ⟨h1, h2, h3, h4⟩ := h
  refine ⟨by rw [← dCnt_may]; exact h1, h2, h3, h4, ?_⟩
  simp only [List.append_assoc]
theorem Rb.down {base : Nat} {T : List Int} {w W1 wr : World} (h : Rb base T W1 wr) (hb : base = w.heap.size) (g : w.grownBy W1 none) : w.grownBy wr none :=
  ⟨h.os.trans g.os, h.tape.trans g.tape, h.output.trans g.output, Nat.le_trans g.size h.size, fun k hk _ => by
    have h1 := g.block k hk (by simp)
    obtain ⟨o, ho⟩ : ∃ o, w.heap[k]? = some o := ⟨_, Array.getElem?_eq_getElem hk⟩
    rw [ho] at h1 ⊢
    exact h.block k o h1 (.inl (by omega))⟩
set_option maxRecDepth 100000 in
set_option maxHeartbeats 16000000 in
theorem bytes8 {w : World} {p : Pg.Pr} {z1 z2 : Option Addr} {y1 y2 : Nat} (h : PrC (fun k => k < w.heap.size) w p z1 z2 y1 y2) (hm : p.dl.may = true) (hl : p.dl.en.length ≤ 1000000000) :
    Calls Try.prog 12 #[.agg #[.slice z1 p.types.length y1, .slice z2 p.funcs.length y2]] w fun e w' => ∃ v, e = .returned v ∧ OwnL w' w.heap.size v p.dl.en ∧ w.grownBy w' none := by
  obtain ⟨base, hbe⟩ : ∃ b, b = w.heap.size := ⟨_, rfl⟩
  have HBE : Hid (base = w.heap.size) := hbe
  rw [← hbe] at h ⊢
  have hle1 := h.t.le
  have hmx1 := h.t.max
  have hle2 := h.f.le
  have hmx2 := h.f.max
  unfold maxLen at hmx1 hmx2
  obtain ⟨W1, hW1⟩ : ∃ W1, W1 = w.alloc (.cells #[.slice z1 p.types.length y1, .slice z2 p.funcs.length y2] 27) := ⟨_, rfl⟩
  have HW1 : Hid (W1 = w.alloc (.cells #[.slice z1 p.types.length y1, .slice z2 p.funcs.length y2] 27)) := hW1
  have g1 : w.grownBy W1 none := by rw [hW1]; exact World.grownBy_alloc _ _ _
  have HG1 : Hid (w.grownBy W1 none) := g1
  obtain ⟨PB, hPB⟩ : ∃ PB, PB = w.heap.size := ⟨_, rfl⟩
  have HPB : Hid (PB = w.heap.size) := hPB
  have HB : Hid (W1.heap[PB]? = some (.cells #[.slice z1 p.types.length y1, .slice z2 p.funcs.length y2] 27)) := by show _ = _; rw [hW1, hPB]; exact heap_alloc_new w _
  have hb1 : base ≤ W1.heap.size := by rw [hbe]; exact g1.size
  have HT : Hid (TpL (fun k => k < base) W1 z1 y1 p.types) := TpL.grow h.t g1
  have HF : Hid (FnL (fun k => k < base) W1 z2 y2 p.funcs) := FnL.grow h.f g1
  have e0 : p.dl = ((Pg.dCnt p.types.length).app (Pg.dCat Pg.Tp.dl p.types)).app ((Pg.dCnt p.funcs.length).app (Pg.dCat Pg.Fn.dl p.funcs)) := by rw [Pg.Pr.dl, Pg.dTs_cat, Pg.dFs_cat]
  rw [e0] at hm hl ⊢
  simp only [Pg.Dl.app, Bool.and_eq_true, List.length_append] at hm hl
  obtain ⟨⟨hm1, hm2⟩, hm3, hm4⟩ := hm
  have M1 : Pg.okB (p.types.length : Int) = true := by rw [← dCnt_may]; exact hm1
  have M3 : Hid (Pg.okB (p.funcs.length : Int) = true) := by show _ = true; rw [← dCnt_may]; exact hm3
  have M2 : Hid ((Pg.dCat Pg.Tp.dl p.types).may = true) := hm2
  have M4 : Hid ((Pg.dCat Pg.Fn.dl p.funcs).may = true) := hm4
  have HL : Hid ((Pg.dCnt p.types.length).en.length + (Pg.dCat Pg.Tp.dl p.types).en.length + ((Pg.dCnt p.funcs.length).en.length + (Pg.dCat Pg.Fn.dl p.funcs).en.length) ≤ 1000000000) := hl
  show Calls Try.prog 12 #[.agg #[.slice z1 p.types.length y1, .slice z2 p.funcs.length y2]] w fun e w' => ∃ v, e = .returned v ∧ OwnL w' base v (((Pg.dCnt p.types.length).en ++ (Pg.dCat Pg.Tp.dl p.types).en) ++ ((Pg.dCnt p.funcs.length).en ++ (Pg.dCat Pg.Fn.dl p.funcs).en)) ∧ w.grownBy w' none
  have HC : Hid (Calls Try.prog 28 #[.slice none 0 0, .int .i64 (p.types.length : Int)] W1 (BtP base W1 [] (Pg.dCnt (p.types.length : Int)).en)) := count8 (OwnL.nil W1 base) M1 (by
    generalize (Pg.dCnt (p.types.length : Int)).en.length = A at *
    generalize (Pg.dCnt (p.funcs.length : Int)).en.length = A2 at *
    simp only [List.length_nil]
    omega) hb1
  clear h hm1 hm2 hm3 hm4 hl e0 M1 g1 hW1 hPB hbe
  go_enter Try.func12, Try.ntmps12
  have m0 : W1.cell? ⟨PB, 0, none⟩ = some (.slice z1 p.types.length y1) := cell_heapB HB.out 0
  go_wp2_with (go_at_call 28; rw [← HW1.out]; refine HC.out.mono ?_; rintro e w4 ⟨u, rfl, ho4, hr4⟩; rw [List.nil_append] at ho4 hr4; obtain ⟨a4, c4, rfl, _⟩ := ho4.toB.shape; have O4 : Hid (OwnL w4 base (.slice a4 (Pg.dCnt p.types.length).en.length c4) (Pg.dCnt p.types.length).en) := ho4; have R4 : Hid (Ra base (Pg.dCnt p.types.length).en W1 w4) := hr4; clear ho4 hr4 HC)
  rw [← HPB.out]
  clear m0
  go_loopw [3, 4] (fun bv ix wr => ∃ (k : Nat) (a' : Option Addr) (c' : Nat), bv = .slice a' ((Pg.dCnt p.types.length).en ++ (Pg.dCat Pg.Tp.dl (p.types.take k)).en).length c' ∧ ix = .int .i64 k ∧ k ≤ p.types.length ∧ OwnL wr base (.slice a' ((Pg.dCnt p.types.length).en ++ (Pg.dCat Pg.Tp.dl (p.types.take k)).en).length c') ((Pg.dCnt p.types.length).en ++ (Pg.dCat Pg.Tp.dl (p.types.take k)).en) ∧ Ra base ((Pg.dCnt p.types.length).en ++ (Pg.dCat Pg.Tp.dl (p.types.take k)).en) W1 wr) (fun _ ix _ => p.types.length - (intOf ix).toNat)
  case atStart => exact ⟨0, a4, c4, by simp [Pg.dCat, Pg.Dl.nil], rfl, Nat.zero_le _, by simpa [Pg.dCat, Pg.Dl.nil] using O4.out, by simpa [Pg.dCat, Pg.Dl.nil] using R4.out⟩
  case round =>
    obtain ⟨k, a', c', rfl, rfl, hk, ho, hr⟩ := hrel
    have HR : Hid (Ra base ((Pg.dCnt p.types.length).en ++ (Pg.dCat Pg.Tp.dl (p.types.take k)).en) W1 wr) := hr
    have m0 : wr.cell? ⟨PB, 0, none⟩ = some (.slice z1 p.types.length y1) := hr.rb.cell HB.out (Kb.of (by decide)) 0
    by_cases hkn : k < p.types.length
    case neg =>
      obtain rfl : k = p.types.length := by omega
      rw [List.take_length] at ho hr
      have m1 : wr.cell? ⟨PB, 1, none⟩ = some (.slice z2 p.funcs.length y2) := hr.rb.cell HB.out (Kb.of (by decide)) 1
      have hsz : base ≤ wr.heap.size := Nat.le_trans hb1 hr.rb.size
      have HR1 : Hid (Ra base ((Pg.dCnt p.types.length).en ++ (Pg.dCat Pg.Tp.dl p.types).en) W1 wr) := hr
      have hl2 : ((Pg.dCnt p.types.length).en ++ (Pg.dCat Pg.Tp.dl p.types).en).length + (Pg.dCnt (p.funcs.length : Int)).en.length ≤ 1000000000 := by
        have := HL.out
        simp only [List.length_append]
        generalize (Pg.dCnt (p.types.length : Int)).en.length = A at *
        generalize (Pg.dCnt (p.funcs.length : Int)).en.length = A2 at *
        omega
      have HC : Hid (Calls Try.prog 28 #[.slice a' ((Pg.dCnt p.types.length).en ++ (Pg.dCat Pg.Tp.dl p.types).en).length c', .int .i64 (p.funcs.length : Int)] wr (BtP base wr ((Pg.dCnt p.types.length).en ++ (Pg.dCat Pg.Tp.dl p.types).en) (Pg.dCnt (p.funcs.length : Int)).en)) := count8 ho M3.out hl2 hsz
      rw [List.take_length]
      clear ho hr hl2 HR
      generalize hLL : ((Pg.dCnt p.types.length).en ++ (Pg.dCat Pg.Tp.dl p.types).en).length = LL at *
      go_wp2_with (go_at_call 28; refine HC.out.mono ?_; rintro e w6 ⟨u, rfl, ho6, hr6⟩; obtain ⟨a6, c6, rfl, _⟩ := ho6.toB.shape; have O6 : Hid (OwnL w6 base (.slice a6 ((Pg.dCnt p.types.length).en ++ (Pg.dCat Pg.Tp.dl p.types).en ++ (Pg.dCnt p.funcs.length).en).length c6) ((Pg.dCnt p.types.length).en ++ (Pg.dCat Pg.Tp.dl p.types).en ++ (Pg.dCnt p.funcs.length).en)) := ho6; have R6 : Hid (Ra base ((Pg.dCnt p.types.length).en ++ (Pg.dCat Pg.Tp.dl p.types).en ++ (Pg.dCnt p.funcs.length).en) W1 w6) := (HR1.out.mono (List.prefix_append _ _)).trans hr6; clear ho6 hr6 HC)
      clear m0 m1
      go_loopw [3, 6] (fun bv ix wr => ∃ (k : Nat) (a' : Option Addr) (c' : Nat), bv = .slice a' (((Pg.dCnt p.types.length).en ++ (Pg.dCat Pg.Tp.dl p.types).en ++ (Pg.dCnt p.funcs.length).en) ++ (Pg.dCat Pg.Fn.dl (p.funcs.take k)).en).length c' ∧ ix = .int .i64 k ∧ k ≤ p.funcs.length ∧ OwnL wr base (.slice a' (((Pg.dCnt p.types.length).en ++ (Pg.dCat Pg.Tp.dl p.types).en ++ (Pg.dCnt p.funcs.length).en) ++ (Pg.dCat Pg.Fn.dl (p.funcs.take k)).en).length c') (((Pg.dCnt p.types.length).en ++ (Pg.dCat Pg.Tp.dl p.types).en ++ (Pg.dCnt p.funcs.length).en) ++ (Pg.dCat Pg.Fn.dl (p.funcs.take k)).en) ∧ Ra base (((Pg.dCnt p.types.length).en ++ (Pg.dCat Pg.Tp.dl p.types).en ++ (Pg.dCnt p.funcs.length).en) ++ (Pg.dCat Pg.Fn.dl (p.funcs.take k)).en) W1 wr) (fun _ ix _ => p.funcs.length - (intOf ix).toNat)
      case atStart => exact ⟨0, a6, c6, by simp [Pg.dCat, Pg.Dl.nil], rfl, Nat.zero_le _, by simpa [Pg.dCat, Pg.Dl.nil] using O6.out, by simpa [Pg.dCat, Pg.Dl.nil] using R6.out⟩
      case round =>
        obtain ⟨k, a', c', rfl, rfl, hk, ho, hr⟩ := hrel
        have HR : Hid (Ra base (((Pg.dCnt p.types.length).en ++ (Pg.dCat Pg.Tp.dl p.types).en ++ (Pg.dCnt p.funcs.length).en) ++ (Pg.dCat Pg.Fn.dl (p.funcs.take k)).en) W1 wr) := hr
        have m0 : wr.cell? ⟨PB, 1, none⟩ = some (.slice z2 p.funcs.length y2) := hr.rb.cell HB.out (Kb.of (by decide)) 1
        by_cases hkn : k < p.funcs.length
        case neg =>
          obtain rfl : k = p.funcs.length := by omega
          have HO : Hid (OwnL wr base (.slice a' (((Pg.dCnt p.types.length).en ++ (Pg.dCat Pg.Tp.dl p.types).en ++ (Pg.dCnt p.funcs.length).en) ++ (Pg.dCat Pg.Fn.dl (p.funcs.take p.funcs.length)).en).length c') (((Pg.dCnt p.types.length).en ++ (Pg.dCat Pg.Tp.dl p.types).en ++ (Pg.dCnt p.funcs.length).en) ++ (Pg.dCat Pg.Fn.dl (p.funcs.take p.funcs.length)).en)) := ho
          clear ho hr
          generalize hLL : (((Pg.dCnt p.types.length).en ++ (Pg.dCat Pg.Tp.dl p.types).en ++ (Pg.dCnt p.funcs.length).en) ++ (Pg.dCat Pg.Fn.dl (p.funcs.take p.funcs.length)).en).length = LL at *
          go_wp2
          go_ret
          have e : ((Pg.dCnt p.types.length).en ++ (Pg.dCat Pg.Tp.dl p.types).en) ++ ((Pg.dCnt p.funcs.length).en ++ (Pg.dCat Pg.Fn.dl p.funcs).en) = ((Pg.dCnt p.types.length).en ++ (Pg.dCat Pg.Tp.dl p.types).en ++ (Pg.dCnt p.funcs.length).en) ++ (Pg.dCat Pg.Fn.dl (p.funcs.take p.funcs.length)).en := by rw [List.take_length]; simp only [List.append_assoc]
          exact ⟨_, rfl, by rw [e]; exact HO.out, HR.out.rb.down HBE.out HG1.out⟩
        have hkn' : (k : Int) < p.funcs.length := by omega
        have hrow : FnL (fun k => k < base) wr z2 y2 p.funcs := FnL.ch HF.out hr.rb.ch (fun k hk => not_rangeB hk) (fun _ h => h)
        obtain ⟨b, o, rfl, hbb, hx⟩ := hrow.at hkn
        have hbb : b < base := hbb
        have hsz : base ≤ wr.heap.size := Nat.le_trans hb1 hr.rb.size
        have hsc := Pg.dCat_succ Pg.Fn.dl hkn
        obtain ⟨_, _, q3, q4⟩ := Pg.dCat_le Pg.Fn.dl p.funcs (k + 1)
        have hmk := q4 M4.out
        rw [hsc] at q3 hmk
        simp only [Pg.Dl.app, Bool.and_eq_true, List.length_append] at q3 hmk
        have HS : Hid (((Pg.dCnt p.types.length).en ++ (Pg.dCat Pg.Tp.dl p.types).en ++ (Pg.dCnt p.funcs.length).en) ++ (Pg.dCat Pg.Fn.dl (p.funcs.take (k + 1))).en = ((Pg.dCnt p.types.length).en ++ (Pg.dCat Pg.Tp.dl p.types).en ++ (Pg.dCnt p.funcs.length).en) ++ (Pg.dCat Pg.Fn.dl (p.funcs.take k)).en ++ (Pg.Fn.dl p.funcs[k]).en) := by
          show _ = _
          rw [hsc, Pg.Dl.app, List.append_assoc _ (Pg.dCat Pg.Fn.dl (p.funcs.take k)).en]
        have hlen : (((Pg.dCnt p.types.length).en ++ (Pg.dCat Pg.Tp.dl p.types).en ++ (Pg.dCnt p.funcs.length).en) ++ (Pg.dCat Pg.Fn.dl (p.funcs.take k)).en).length + (Pg.Fn.dl p.funcs[k]).en.length ≤ 1000000000 := by
          have := HL.out
          simp only [List.length_append]
          omega
        generalize hLL : ((Pg.dCnt p.types.length).en ++ (Pg.dCat Pg.Tp.dl p.types).en ++ (Pg.dCnt p.funcs.length).en) ++ (Pg.dCat Pg.Fn.dl (p.funcs.take k)).en = L at *
        obtain ⟨a1, a2, a3, k1, k2, k3, he⟩ := (id hx)
        have c0 := he.c0
        have c1 := he.c1
        have c2 := he.c2
        have c3 := he.c3
        obtain ⟨W2, hW2⟩ : ∃ z, z = wr.alloc (.cells #[.int .i64 p.funcs[k].params, .slice a1 p.funcs[k].locals.length k1, .slice a2 p.funcs[k].results.length k2, .slice a3 p.funcs[k].body.length k3] 55) := ⟨_, rfl⟩
        have HW2 : Hid (W2 = wr.alloc (.cells #[.int .i64 p.funcs[k].params, .slice a1 p.funcs[k].locals.length k1, .slice a2 p.funcs[k].results.length k2, .slice a3 p.funcs[k].body.length k3] 55)) := hW2
        have g2 : wr.grownBy W2 none := by rw [hW2]; exact World.grownBy_alloc _ _ _
        have HG2 : Hid (wr.grownBy W2 none) := g2
        have HB2 : Hid (W2.heap[wr.heap.size]? = some (.cells #[.int .i64 p.funcs[k].params, .slice a1 p.funcs[k].locals.length k1, .slice a2 p.funcs[k].results.length k2, .slice a3 p.funcs[k].body.length k3] 55)) := by show _ = _; rw [hW2]; exact heap_alloc_new wr _
        have HO : Hid (OwnL W2 base (.slice a' L.length c') L) := ho.kept g2 (Classical.em _)
        have hbase : base ≤ W2.heap.size := Nat.le_trans hsz g2.size
        obtain ⟨q1, q2, q3', q4', q6⟩ := Pg.Fn.parts p.funcs[k] hmk.2
        have hl := hlen
        rw [q6] at hl
        have HX : Hid ((Pg.Fn.dl p.funcs[k]).en = (Pg.dCnt p.funcs[k].params).en ++ (Pg.dNumL p.funcs[k].locals).en ++ (Pg.dNumL p.funcs[k].results).en ++ (Pg.dStL p.funcs[k].body).en) := q6
        clear hr hx hrow hsc q3 q4 hmk hlen ho q6 hW2
        generalize p.funcs[k] = x at *
        obtain ⟨L1, hL1⟩ : ∃ z, z = L ++ (Pg.dCnt x.params).en := ⟨_, rfl⟩
        obtain ⟨L2, hL2⟩ : ∃ z, z = L1 ++ (Pg.dNumL x.locals).en := ⟨_, rfl⟩
        obtain ⟨L3, hL3⟩ : ∃ z, z = L2 ++ (Pg.dNumL x.results).en := ⟨_, rfl⟩
        obtain ⟨L4, hL4⟩ : ∃ z, z = L3 ++ (Pg.dStL x.body).en := ⟨_, rfl⟩
        have TOT : Hid (L ++ ((Pg.dCnt x.params).en ++ (Pg.dNumL x.locals).en ++ (Pg.dNumL x.results).en ++ (Pg.dStL x.body).en) = L4) := by
          show _ = _
          rw [hL4, hL3, hL2, hL1]
          simp only [List.append_assoc]
        have hLN := hl
        simp only [List.length_append] at hLN
        have NN1 : L.length + ((Pg.dCnt x.params).en).length ≤ 1000000000 := by
          try simp only [List.length_append]
          omega
        have PP01 : Hid (L <+: L1) := pre_eq hL1
        have C1 : Hid (∀ W v, Ch W2 W (List.range' base (W2.heap.size - base)) → OwnL W base v L → base ≤ W.heap.size → Calls Try.prog 28 #[v, .int .i64 x.params] W (BtQ base W L1)) := fun W v hR h hb => BtP.q (count8 h q1 NN1 hb) hL1
        have NN2 : L1.length + ((Pg.dNumL x.locals).en).length ≤ 1000000000 := by
          rw [hL1]
          try simp only [List.length_append]
          omega
        have PP12 : Hid (L1 <+: L2) := pre_eq hL2
        have C2 : Hid (∀ W v, Ch W2 W (List.range' base (W2.heap.size - base)) → OwnL W base v L1 → base ≤ W.heap.size → Calls Try.prog 29 #[v, .slice a1 x.locals.length k1] W (BtQ base W L2)) := fun W v hR h hb => BtP.q (counts8 h (NumL.ch (NumL.grow he.l g2) hR (fun k hk => not_rangeB hk) (fun _ h => h)) q2 NN2 hb) hL2
        have NN3 : L2.length + ((Pg.dNumL x.results).en).length ≤ 1000000000 := by
          rw [hL2, hL1]
          try simp only [List.length_append]
          omega
        have PP23 : Hid (L2 <+: L3) := pre_eq hL3
        have C3 : Hid (∀ W v, Ch W2 W (List.range' base (W2.heap.size - base)) → OwnL W base v L2 → base ≤ W.heap.size → Calls Try.prog 29 #[v, .slice a2 x.results.length k2] W (BtQ base W L3)) := fun W v hR h hb => BtP.q (counts8 h (NumL.ch (NumL.grow he.r g2) hR (fun k hk => not_rangeB hk) (fun _ h => h)) q3' NN3 hb) hL3
        have NN4 : L3.length + ((Pg.dStL x.body).en).length ≤ 1000000000 := by
          rw [hL3, hL2, hL1]
          try simp only [List.length_append]
          omega
        have PP34 : Hid (L3 <+: L4) := pre_eq hL4
        have C4 : Hid (∀ W v, Ch W2 W (List.range' base (W2.heap.size - base)) → OwnL W base v L3 → base ≤ W.heap.size → Calls Try.prog 30 #[v, .slice a3 x.body.length k3] W (BtQ base W L4)) := fun W v hR h hb => BtP.q (stmts8_any x.body base W v L3 a3 k3 h (StL.ch (StL.grow he.b g2) hR (fun k hk => not_rangeB hk) (fun _ h => h)) q4' NN4 hb) hL4
        clear he q1 q2 q3' q4' hl hLN g2 hL1 hL2 hL3 hL4 NN1 NN2 NN3 NN4
        go_wp2_with fail
        rw [← HW2.out]
        refine region_rel (Ra base (L4)) (fun h1 h2 => Ra.trans h1 h2) (fun w => Ra.refl _ _ w) 13 (psiL [eqV (.slice a' L.length c'), eqV (.pointer (some ⟨wr.heap.size, 0, none⟩)), eqV (.int .i64 (x.params)), rowV base (L1), eqV (.pointer (some ⟨wr.heap.size, 1, none⟩)), eqV (.slice a1 x.locals.length k1), rowV base (L2), eqV (.pointer (some ⟨wr.heap.size, 2, none⟩)), eqV (.slice a2 x.results.length k2), rowV base (L3), eqV (.pointer (some ⟨wr.heap.size, 3, none⟩)), eqV (.slice a3 x.body.length k3), rowV base (L4)]) (by kernel_rfl) (by kernel_rfl) (by kernel_rfl) (by kernel_rfl) (psiLR_hst (by repeat (first | exact stabLR_nil | refine stabLR_cons ?_ ?_ | exact stabR_eq _ _ | exact stabR_row ((PP12.out.trans (PP23.out.trans (PP34.out)))) | exact stabR_row ((PP23.out.trans (PP34.out))) | exact stabR_row ((PP34.out)) | exact stabR_row (List.prefix_refl _)))) ?_ ?_
        · simp only [List.take_succ_cons, List.take_zero]
          refine ⟨?_, ?_, ?_, ?_, ?_, ?_, ?_, ?_, ?_, ?_, ?_, ?_, ?_, trivial⟩
          · intro VV W0 AA g hV hs hz
            have gR : Rb base (L4) W2 W0 := ((raDrew base (L4) W2).trans g).rb
            have e03 := hz 3 (.slice a' L.length c') (by kernel_rfl) rfl
            clear hV hs hz
            refine outR_val (by kernel_rfl) (v := .slice a' L.length c') (w' := W0) ?_ (Ra.refl _ _ _) rfl
            simp [go_sem, e03]
          · intro VV W0 AA g hV hs hz
            have gR : Rb base (L4) W2 W0 := ((raDrew base (L4) W2).trans g).rb
            have e07 := hz 7 (.pointer (some ⟨wr.heap.size, 0, none⟩)) (by kernel_rfl) rfl
            clear hV hs hz
            refine outR_val (by kernel_rfl) (v := .pointer (some ⟨wr.heap.size, 0, none⟩)) (w' := W0) ?_ (Ra.refl _ _ _) rfl
            simp [go_sem, e07]
          · intro VV W0 AA g hV hs hz
            have gR : Rb base (L4) W2 W0 := ((raDrew base (L4) W2).trans g).rb
            have q1 : VV 1 = .pointer (some ⟨wr.heap.size, 0, none⟩) := hV 1 (by kernel_rfl)
            have e1 := hs 55 1 (by kernel_rfl) (by kernel_rfl)
            have x0 := gR.cell HB2.out (Kb.of (by decide)) 0
            clear hV hs hz
            refine outR_val (by kernel_rfl) (v := .int .i64 (x.params)) (w' := W0) ?_ (Ra.refl _ _ _) rfl
            simp [go_sem, q1, e1, x0]
          · intro VV W0 AA g hV hs hz
            have gR : Rb base (L4) W2 W0 := ((raDrew base (L4) W2).trans g).rb
            have q0 : VV 0 = .slice a' L.length c' := hV 0 (by kernel_rfl)
            have e0 := hs 54 0 (by kernel_rfl) (by kernel_rfl)
            have q2 : VV 2 = .int .i64 (x.params) := hV 2 (by kernel_rfl)
            have e2 := hs 56 2 (by kernel_rfl) (by kernel_rfl)
            clear hV hs hz
            refine outR_call (by kernel_rfl) (f := 28) ?_ ((C1.out W0 _ (gR.ch) (gR.own _ _ (PP01.out.trans (PP12.out.trans (PP23.out.trans (PP34.out)))) HO.out) (Nat.le_trans hbase gR.size)).mono fun e w2 ⟨v, he, ho, hr⟩ => ⟨v, he, Ra.mono hr ((PP12.out.trans (PP23.out.trans (PP34.out)))), ho, Nat.le_trans (Nat.le_trans hbase gR.size) (hr _ (List.prefix_refl _)).size⟩)
            simp [go_sem, q0, e0, q2, e2]
          · intro VV W0 AA g hV hs hz
            have gR : Rb base (L4) W2 W0 := ((raDrew base (L4) W2).trans g).rb
            have e07 := hz 7 (.pointer (some ⟨wr.heap.size, 0, none⟩)) (by kernel_rfl) rfl
            clear hV hs hz
            refine outR_val (by kernel_rfl) (v := .pointer (some ⟨wr.heap.size, 1, none⟩)) (w' := W0) ?_ (Ra.refl _ _ _) rfl
            simp [go_sem, e07]
          · intro VV W0 AA g hV hs hz
            have gR : Rb base (L4) W2 W0 := ((raDrew base (L4) W2).trans g).rb
            have q4 : VV 4 = .pointer (some ⟨wr.heap.size, 1, none⟩) := hV 4 (by kernel_rfl)
            have e4 := hs 58 4 (by kernel_rfl) (by kernel_rfl)
            have x0 := gR.cell HB2.out (Kb.of (by decide)) 1
            clear hV hs hz
            refine outR_val (by kernel_rfl) (v := .slice a1 x.locals.length k1) (w' := W0) ?_ (Ra.refl _ _ _) rfl
            simp [go_sem, q4, e4, x0]
          · intro VV W0 AA g hV hs hz
            have gR : Rb base (L4) W2 W0 := ((raDrew base (L4) W2).trans g).rb
            have p3 : rowV base (L1) (VV 3) W0 := hV 3 (by kernel_rfl)
            have e3 := hs 57 3 (by kernel_rfl) (by kernel_rfl)
            have q5 : VV 5 = .slice a1 x.locals.length k1 := hV 5 (by kernel_rfl)
            have e5 := hs 59 5 (by kernel_rfl) (by kernel_rfl)
            clear hV hs hz
            refine outR_call (by kernel_rfl) (f := 29) ?_ ((C2.out W0 _ (gR.ch) (p3.1) (p3.2)).mono fun e w2 ⟨v, he, ho, hr⟩ => ⟨v, he, Ra.mono hr ((PP23.out.trans (PP34.out))), ho, Nat.le_trans (Nat.le_trans hbase gR.size) (hr _ (List.prefix_refl _)).size⟩)
            simp [go_sem, e3, q5, e5]
          · intro VV W0 AA g hV hs hz
            have gR : Rb base (L4) W2 W0 := ((raDrew base (L4) W2).trans g).rb
            have e07 := hz 7 (.pointer (some ⟨wr.heap.size, 0, none⟩)) (by kernel_rfl) rfl
            clear hV hs hz
            refine outR_val (by kernel_rfl) (v := .pointer (some ⟨wr.heap.size, 2, none⟩)) (w' := W0) ?_ (Ra.refl _ _ _) rfl
            simp [go_sem, e07]
          · intro VV W0 AA g hV hs hz
            have gR : Rb base (L4) W2 W0 := ((raDrew base (L4) W2).trans g).rb
            have q7 : VV 7 = .pointer (some ⟨wr.heap.size, 2, none⟩) := hV 7 (by kernel_rfl)
            have e7 := hs 61 7 (by kernel_rfl) (by kernel_rfl)
            have x0 := gR.cell HB2.out (Kb.of (by decide)) 2
            clear hV hs hz
            refine outR_val (by kernel_rfl) (v := .slice a2 x.results.length k2) (w' := W0) ?_ (Ra.refl _ _ _) rfl
            simp [go_sem, q7, e7, x0]
          · intro VV W0 AA g hV hs hz
            have gR : Rb base (L4) W2 W0 := ((raDrew base (L4) W2).trans g).rb
            have p6 : rowV base (L2) (VV 6) W0 := hV 6 (by kernel_rfl)
            have e6 := hs 60 6 (by kernel_rfl) (by kernel_rfl)
            have q8 : VV 8 = .slice a2 x.results.length k2 := hV 8 (by kernel_rfl)
            have e8 := hs 62 8 (by kernel_rfl) (by kernel_rfl)
            clear hV hs hz
            refine outR_call (by kernel_rfl) (f := 29) ?_ ((C3.out W0 _ (gR.ch) (p6.1) (p6.2)).mono fun e w2 ⟨v, he, ho, hr⟩ => ⟨v, he, Ra.mono hr ((PP34.out)), ho, Nat.le_trans (Nat.le_trans hbase gR.size) (hr _ (List.prefix_refl _)).size⟩)
            simp [go_sem, e6, q8, e8]
          · intro VV W0 AA g hV hs hz
            have gR : Rb base (L4) W2 W0 := ((raDrew base (L4) W2).trans g).rb
            have e07 := hz 7 (.pointer (some ⟨wr.heap.size, 0, none⟩)) (by kernel_rfl) rfl
            clear hV hs hz
            refine outR_val (by kernel_rfl) (v := .pointer (some ⟨wr.heap.size, 3, none⟩)) (w' := W0) ?_ (Ra.refl _ _ _) rfl
            simp [go_sem, e07]
          · intro VV W0 AA g hV hs hz
            have gR : Rb base (L4) W2 W0 := ((raDrew base (L4) W2).trans g).rb
            have q10 : VV 10 = .pointer (some ⟨wr.heap.size, 3, none⟩) := hV 10 (by kernel_rfl)
            have e10 := hs 64 10 (by kernel_rfl) (by kernel_rfl)
            have x0 := gR.cell HB2.out (Kb.of (by decide)) 3
            clear hV hs hz
            refine outR_val (by kernel_rfl) (v := .slice a3 x.body.length k3) (w' := W0) ?_ (Ra.refl _ _ _) rfl
            simp [go_sem, q10, e10, x0]
          · intro VV W0 AA g hV hs hz
            have gR : Rb base (L4) W2 W0 := ((raDrew base (L4) W2).trans g).rb
            have p9 : rowV base (L3) (VV 9) W0 := hV 9 (by kernel_rfl)
            have e9 := hs 63 9 (by kernel_rfl) (by kernel_rfl)
            have q11 : VV 11 = .slice a3 x.body.length k3 := hV 11 (by kernel_rfl)
            have e11 := hs 65 11 (by kernel_rfl) (by kernel_rfl)
            clear hV hs hz
            refine outR_call (by kernel_rfl) (f := 30) ?_ ((C4.out W0 _ (gR.ch) (p9.1) (p9.2)).mono fun e w2 ⟨v, he, ho, hr⟩ => ⟨v, he, Ra.mono hr (List.prefix_refl _), ho, Nat.le_trans (Nat.le_trans hbase gR.size) (hr _ (List.prefix_refl _)).size⟩)
            simp [go_sem, e9, q11, e11]
        · intro VV W0 g hV
          have gA : Ra base (L4) W2 W0 := (raDrew base (L4) W2).trans g
          have h0 : VV 0 = .slice a' L.length c' := hV 0 (by decide)
          have h1 : VV 1 = .pointer (some ⟨wr.heap.size, 0, none⟩) := hV 1 (by decide)
          have h2 : VV 2 = .int .i64 (x.params) := hV 2 (by decide)
          obtain ⟨p3, _⟩ : rowV base (L1) (VV 3) W0 := hV 3 (by decide)
          obtain ⟨aa3, cc3, h3, _⟩ := p3.toB.shape
          rw [h3] at p3
          have h4 : VV 4 = .pointer (some ⟨wr.heap.size, 1, none⟩) := hV 4 (by decide)
          have h5 : VV 5 = .slice a1 x.locals.length k1 := hV 5 (by decide)
          obtain ⟨p6, _⟩ : rowV base (L2) (VV 6) W0 := hV 6 (by decide)
          obtain ⟨aa6, cc6, h6, _⟩ := p6.toB.shape
          rw [h6] at p6
          have h7 : VV 7 = .pointer (some ⟨wr.heap.size, 2, none⟩) := hV 7 (by decide)
          have h8 : VV 8 = .slice a2 x.results.length k2 := hV 8 (by decide)
          obtain ⟨p9, _⟩ : rowV base (L3) (VV 9) W0 := hV 9 (by decide)
          obtain ⟨aa9, cc9, h9, _⟩ := p9.toB.shape
          rw [h9] at p9
          have h10 : VV 10 = .pointer (some ⟨wr.heap.size, 3, none⟩) := hV 10 (by decide)
          have h11 : VV 11 = .slice a3 x.body.length k3 := hV 11 (by decide)
          obtain ⟨p12, _⟩ : rowV base (L4) (VV 12) W0 := hV 12 (by decide)
          obtain ⟨aa12, cc12, h12, _⟩ := p12.toB.shape
          rw [h12] at p12
          simp [frV, dstOf, Act.put, h0, h1, h2, h3, h4, h5, h6, h7, h8, h9, h10, h11, h12]
          clear h0 h1 h2 h3 h4 h5 h6 h7 h8 h9 h10 h11 h12 hV g
          have P3 : Hid (OwnL W0 base (.slice aa3 (L1).length cc3) (L1)) := p3
          have P6 : Hid (OwnL W0 base (.slice aa6 (L2).length cc6) (L2)) := p6
          have P9 : Hid (OwnL W0 base (.slice aa9 (L3).length cc9) (L3)) := p9
          have P12 : Hid (OwnL W0 base (.slice aa12 (L4).length cc12) (L4)) := p12
          clear p3 p6 p9 p12
          have GA : Hid (Ra base (L4) W2 W0) := gA
          clear gA
          go_wp2_with fail
          go_roundw
          case rel =>
            refine ⟨k + 1, aa12, cc12, ?_, by go_num, by omega, ?_, ?_⟩
            · rw [HS.out, HX.out, TOT.out]
            · rw [HS.out, HX.out, TOT.out]; exact P12.out
            · intro T hT
              rw [HS.out, HX.out, TOT.out] at hT
              exact ((HR.out T ((PP01.out.trans (PP12.out.trans (PP23.out.trans (PP34.out)))).trans hT)).trans (Rb.of HG2.out)).trans (GA.out T hT)
          case measure => simp [intOf]; omega
    have hkn' : (k : Int) < p.types.length := by omega
    have hrow : TpL (fun k => k < base) wr z1 y1 p.types := TpL.ch HT.out hr.rb.ch (fun k hk => not_rangeB hk) (fun _ h => h)
    obtain ⟨b, o, rfl, hbb, hx⟩ := hrow.at hkn
    have hbb : b < base := hbb
    have hsz : base ≤ wr.heap.size := Nat.le_trans hb1 hr.rb.size
    have hsc := Pg.dCat_succ Pg.Tp.dl hkn
    obtain ⟨_, _, q3, q4⟩ := Pg.dCat_le Pg.Tp.dl p.types (k + 1)
    have hmk := q4 M2.out
    rw [hsc] at q3 hmk
    simp only [Pg.Dl.app, Bool.and_eq_true, List.length_append] at q3 hmk
    have HS : Hid ((Pg.dCnt p.types.length).en ++ (Pg.dCat Pg.Tp.dl (p.types.take (k + 1))).en = (Pg.dCnt p.types.length).en ++ (Pg.dCat Pg.Tp.dl (p.types.take k)).en ++ (Pg.Tp.dl p.types[k]).en) := by
      show _ = _
      rw [hsc, Pg.Dl.app, List.append_assoc _ (Pg.dCat Pg.Tp.dl (p.types.take k)).en]
    have hlen : ((Pg.dCnt p.types.length).en ++ (Pg.dCat Pg.Tp.dl (p.types.take k)).en).length + (Pg.Tp.dl p.types[k]).en.length ≤ 1000000000 := by
      have := HL.out
      simp only [List.length_append]
      omega
    generalize hLL : (Pg.dCnt p.types.length).en ++ (Pg.dCat Pg.Tp.dl (p.types.take k)).en = L at *
    obtain ⟨a1, k1, he⟩ := (id hx)
    have c0 := he.c0
    have c1 := he.c1
    have c2 := he.c2
    have c3 := he.c3
    obtain ⟨W2, hW2⟩ : ∃ z, z = wr.alloc (.cells #[.int .i64 p.types[k].kind, .int .i64 p.types[k].elem, .int .i64 p.types[k].n, .slice a1 p.types[k].fields.length k1] 51) := ⟨_, rfl⟩
    have HW2 : Hid (W2 = wr.alloc (.cells #[.int .i64 p.types[k].kind, .int .i64 p.types[k].elem, .int .i64 p.types[k].n, .slice a1 p.types[k].fields.length k1] 51)) := hW2
    have g2 : wr.grownBy W2 none := by rw [hW2]; exact World.grownBy_alloc _ _ _
    have HG2 : Hid (wr.grownBy W2 none) := g2
    have HB2 : Hid (W2.heap[wr.heap.size]? = some (.cells #[.int .i64 p.types[k].kind, .int .i64 p.types[k].elem, .int .i64 p.types[k].n, .slice a1 p.types[k].fields.length k1] 51)) := by show _ = _; rw [hW2]; exact heap_alloc_new wr _
    have HO : Hid (OwnL W2 base (.slice a' L.length c') L) := ho.kept g2 (Classical.em _)
    have hbase : base ≤ W2.heap.size := Nat.le_trans hsz g2.size
    obtain ⟨q1, q2, q3', q4', q6⟩ := Pg.Tp.parts p.types[k] hmk.2
    have hl := hlen
    rw [q6] at hl
    have HX : Hid ((Pg.Tp.dl p.types[k]).en = (Pg.dCnt p.types[k].kind).en ++ (Pg.dCnt p.types[k].elem).en ++ (Pg.dCnt p.types[k].n).en ++ (Pg.dNumL p.types[k].fields).en) := q6
    clear hr hx hrow hsc q3 q4 hmk hlen ho q6 hW2
    generalize p.types[k] = x at *
    obtain ⟨L1, hL1⟩ : ∃ z, z = L ++ (Pg.dCnt x.kind).en := ⟨_, rfl⟩
    obtain ⟨L2, hL2⟩ : ∃ z, z = L1 ++ (Pg.dCnt x.elem).en := ⟨_, rfl⟩
    obtain ⟨L3, hL3⟩ : ∃ z, z = L2 ++ (Pg.dCnt x.n).en := ⟨_, rfl⟩
    obtain ⟨L4, hL4⟩ : ∃ z, z = L3 ++ (Pg.dNumL x.fields).en := ⟨_, rfl⟩
    have TOT : Hid (L ++ ((Pg.dCnt x.kind).en ++ (Pg.dCnt x.elem).en ++ (Pg.dCnt x.n).en ++ (Pg.dNumL x.fields).en) = L4) := by
      show _ = _
      rw [hL4, hL3, hL2, hL1]
      simp only [List.append_assoc]
    have hLN := hl
    simp only [List.length_append] at hLN
    have NN1 : L.length + ((Pg.dCnt x.kind).en).length ≤ 1000000000 := by
      try simp only [List.length_append]
      omega
    have PP01 : Hid (L <+: L1) := pre_eq hL1
    have C1 : Hid (∀ W v, Ch W2 W (List.range' base (W2.heap.size - base)) → OwnL W base v L → base ≤ W.heap.size → Calls Try.prog 28 #[v, .int .i64 x.kind] W (BtQ base W L1)) := fun W v hR h hb => BtP.q (count8 h q1 NN1 hb) hL1
    have NN2 : L1.length + ((Pg.dCnt x.elem).en).length ≤ 1000000000 := by
      rw [hL1]
      try simp only [List.length_append]
      omega
    have PP12 : Hid (L1 <+: L2) := pre_eq hL2
    have C2 : Hid (∀ W v, Ch W2 W (List.range' base (W2.heap.size - base)) → OwnL W base v L1 → base ≤ W.heap.size → Calls Try.prog 28 #[v, .int .i64 x.elem] W (BtQ base W L2)) := fun W v hR h hb => BtP.q (count8 h q2 NN2 hb) hL2
    have NN3 : L2.length + ((Pg.dCnt x.n).en).length ≤ 1000000000 := by
      rw [hL2, hL1]
      try simp only [List.length_append]
      omega
    have PP23 : Hid (L2 <+: L3) := pre_eq hL3
    have C3 : Hid (∀ W v, Ch W2 W (List.range' base (W2.heap.size - base)) → OwnL W base v L2 → base ≤ W.heap.size → Calls Try.prog 28 #[v, .int .i64 x.n] W (BtQ base W L3)) := fun W v hR h hb => BtP.q (count8 h q3' NN3 hb) hL3
    have NN4 : L3.length + ((Pg.dNumL x.fields).en).length ≤ 1000000000 := by
      rw [hL3, hL2, hL1]
      try simp only [List.length_append]
      omega
    have PP34 : Hid (L3 <+: L4) := pre_eq hL4
    have C4 : Hid (∀ W v, Ch W2 W (List.range' base (W2.heap.size - base)) → OwnL W base v L3 → base ≤ W.heap.size → Calls Try.prog 29 #[v, .slice a1 x.fields.length k1] W (BtQ base W L4)) := fun W v hR h hb => BtP.q (counts8 h (NumL.ch (NumL.grow he.f g2) hR (fun k hk => not_rangeB hk) (fun _ h => h)) q4' NN4 hb) hL4
    clear he q1 q2 q3' q4' hl hLN g2 hL1 hL2 hL3 hL4 NN1 NN2 NN3 NN4
    go_wp2_with fail
    rw [← HW2.out]
    refine region_rel (Ra base (L4)) (fun h1 h2 => Ra.trans h1 h2) (fun w => Ra.refl _ _ w) 13 (psiL [eqV (.slice a' L.length c'), eqV (.pointer (some ⟨wr.heap.size, 0, none⟩)), eqV (.int .i64 (x.kind)), rowV base (L1), eqV (.pointer (some ⟨wr.heap.size, 1, none⟩)), eqV (.int .i64 (x.elem)), rowV base (L2), eqV (.pointer (some ⟨wr.heap.size, 2, none⟩)), eqV (.int .i64 (x.n)), rowV base (L3), eqV (.pointer (some ⟨wr.heap.size, 3, none⟩)), eqV (.slice a1 x.fields.length k1), rowV base (L4)]) (by kernel_rfl) (by kernel_rfl) (by kernel_rfl) (by kernel_rfl) (psiLR_hst (by repeat (first | exact stabLR_nil | refine stabLR_cons ?_ ?_ | exact stabR_eq _ _ | exact stabR_row ((PP12.out.trans (PP23.out.trans (PP34.out)))) | exact stabR_row ((PP23.out.trans (PP34.out))) | exact stabR_row ((PP34.out)) | exact stabR_row (List.prefix_refl _)))) ?_ ?_
    · simp only [List.take_succ_cons, List.take_zero]
      refine ⟨?_, ?_, ?_, ?_, ?_, ?_, ?_, ?_, ?_, ?_, ?_, ?_, ?_, trivial⟩
      · intro VV W0 AA g hV hs hz
        have gR : Rb base (L4) W2 W0 := ((raDrew base (L4) W2).trans g).rb
        have e03 := hz 3 (.slice a' L.length c') (by kernel_rfl) rfl
        clear hV hs hz
        refine outR_val (by kernel_rfl) (v := .slice a' L.length c') (w' := W0) ?_ (Ra.refl _ _ _) rfl
        simp [go_sem, e03]
      · intro VV W0 AA g hV hs hz
        have gR : Rb base (L4) W2 W0 := ((raDrew base (L4) W2).trans g).rb
        have e05 := hz 5 (.pointer (some ⟨wr.heap.size, 0, none⟩)) (by kernel_rfl) rfl
        clear hV hs hz
        refine outR_val (by kernel_rfl) (v := .pointer (some ⟨wr.heap.size, 0, none⟩)) (w' := W0) ?_ (Ra.refl _ _ _) rfl
        simp [go_sem, e05]
      · intro VV W0 AA g hV hs hz
        have gR : Rb base (L4) W2 W0 := ((raDrew base (L4) W2).trans g).rb
        have q1 : VV 1 = .pointer (some ⟨wr.heap.size, 0, none⟩) := hV 1 (by kernel_rfl)
        have e1 := hs 25 1 (by kernel_rfl) (by kernel_rfl)
        have x0 := gR.cell HB2.out (Kb.of (by decide)) 0
        clear hV hs hz
        refine outR_val (by kernel_rfl) (v := .int .i64 (x.kind)) (w' := W0) ?_ (Ra.refl _ _ _) rfl
        simp [go_sem, q1, e1, x0]
      · intro VV W0 AA g hV hs hz
        have gR : Rb base (L4) W2 W0 := ((raDrew base (L4) W2).trans g).rb
        have q0 : VV 0 = .slice a' L.length c' := hV 0 (by kernel_rfl)
        have e0 := hs 24 0 (by kernel_rfl) (by kernel_rfl)
        have q2 : VV 2 = .int .i64 (x.kind) := hV 2 (by kernel_rfl)
        have e2 := hs 26 2 (by kernel_rfl) (by kernel_rfl)
        clear hV hs hz
        refine outR_call (by kernel_rfl) (f := 28) ?_ ((C1.out W0 _ (gR.ch) (gR.own _ _ (PP01.out.trans (PP12.out.trans (PP23.out.trans (PP34.out)))) HO.out) (Nat.le_trans hbase gR.size)).mono fun e w2 ⟨v, he, ho, hr⟩ => ⟨v, he, Ra.mono hr ((PP12.out.trans (PP23.out.trans (PP34.out)))), ho, Nat.le_trans (Nat.le_trans hbase gR.size) (hr _ (List.prefix_refl _)).size⟩)
        simp [go_sem, q0, e0, q2, e2]
      · intro VV W0 AA g hV hs hz
        have gR : Rb base (L4) W2 W0 := ((raDrew base (L4) W2).trans g).rb
        have e05 := hz 5 (.pointer (some ⟨wr.heap.size, 0, none⟩)) (by kernel_rfl) rfl
        clear hV hs hz
        refine outR_val (by kernel_rfl) (v := .pointer (some ⟨wr.heap.size, 1, none⟩)) (w' := W0) ?_ (Ra.refl _ _ _) rfl
        simp [go_sem, e05]
      · intro VV W0 AA g hV hs hz
        have gR : Rb base (L4) W2 W0 := ((raDrew base (L4) W2).trans g).rb
        have q4 : VV 4 = .pointer (some ⟨wr.heap.size, 1, none⟩) := hV 4 (by kernel_rfl)
        have e4 := hs 28 4 (by kernel_rfl) (by kernel_rfl)
        have x0 := gR.cell HB2.out (Kb.of (by decide)) 1
        clear hV hs hz
        refine outR_val (by kernel_rfl) (v := .int .i64 (x.elem)) (w' := W0) ?_ (Ra.refl _ _ _) rfl
        simp [go_sem, q4, e4, x0]
      · intro VV W0 AA g hV hs hz
        have gR : Rb base (L4) W2 W0 := ((raDrew base (L4) W2).trans g).rb
        have p3 : rowV base (L1) (VV 3) W0 := hV 3 (by kernel_rfl)
        have e3 := hs 27 3 (by kernel_rfl) (by kernel_rfl)
        have q5 : VV 5 = .int .i64 (x.elem) := hV 5 (by kernel_rfl)
        have e5 := hs 29 5 (by kernel_rfl) (by kernel_rfl)
        clear hV hs hz
        refine outR_call (by kernel_rfl) (f := 28) ?_ ((C2.out W0 _ (gR.ch) (p3.1) (p3.2)).mono fun e w2 ⟨v, he, ho, hr⟩ => ⟨v, he, Ra.mono hr ((PP23.out.trans (PP34.out))), ho, Nat.le_trans (Nat.le_trans hbase gR.size) (hr _ (List.prefix_refl _)).size⟩)
        simp [go_sem, e3, q5, e5]
      · intro VV W0 AA g hV hs hz
        have gR : Rb base (L4) W2 W0 := ((raDrew base (L4) W2).trans g).rb
        have e05 := hz 5 (.pointer (some ⟨wr.heap.size, 0, none⟩)) (by kernel_rfl) rfl
        clear hV hs hz
        refine outR_val (by kernel_rfl) (v := .pointer (some ⟨wr.heap.size, 2, none⟩)) (w' := W0) ?_ (Ra.refl _ _ _) rfl
        simp [go_sem, e05]
      · intro VV W0 AA g hV hs hz
        have gR : Rb base (L4) W2 W0 := ((raDrew base (L4) W2).trans g).rb
        have q7 : VV 7 = .pointer (some ⟨wr.heap.size, 2, none⟩) := hV 7 (by kernel_rfl)
        have e7 := hs 31 7 (by kernel_rfl) (by kernel_rfl)
        have x0 := gR.cell HB2.out (Kb.of (by decide)) 2
        clear hV hs hz
        refine outR_val (by kernel_rfl) (v := .int .i64 (x.n)) (w' := W0) ?_ (Ra.refl _ _ _) rfl
        simp [go_sem, q7, e7, x0]
      · intro VV W0 AA g hV hs hz
        have gR : Rb base (L4) W2 W0 := ((raDrew base (L4) W2).trans g).rb
        have p6 : rowV base (L2) (VV 6) W0 := hV 6 (by kernel_rfl)
        have e6 := hs 30 6 (by kernel_rfl) (by kernel_rfl)
        have q8 : VV 8 = .int .i64 (x.n) := hV 8 (by kernel_rfl)
        have e8 := hs 32 8 (by kernel_rfl) (by kernel_rfl)
        clear hV hs hz
        refine outR_call (by kernel_rfl) (f := 28) ?_ ((C3.out W0 _ (gR.ch) (p6.1) (p6.2)).mono fun e w2 ⟨v, he, ho, hr⟩ => ⟨v, he, Ra.mono hr ((PP34.out)), ho, Nat.le_trans (Nat.le_trans hbase gR.size) (hr _ (List.prefix_refl _)).size⟩)
        simp [go_sem, e6, q8, e8]
      · intro VV W0 AA g hV hs hz
        have gR : Rb base (L4) W2 W0 := ((raDrew base (L4) W2).trans g).rb
        have e05 := hz 5 (.pointer (some ⟨wr.heap.size, 0, none⟩)) (by kernel_rfl) rfl
        clear hV hs hz
        refine outR_val (by kernel_rfl) (v := .pointer (some ⟨wr.heap.size, 3, none⟩)) (w' := W0) ?_ (Ra.refl _ _ _) rfl
        simp [go_sem, e05]
      · intro VV W0 AA g hV hs hz
        have gR : Rb base (L4) W2 W0 := ((raDrew base (L4) W2).trans g).rb
        have q10 : VV 10 = .pointer (some ⟨wr.heap.size, 3, none⟩) := hV 10 (by kernel_rfl)
        have e10 := hs 34 10 (by kernel_rfl) (by kernel_rfl)
        have x0 := gR.cell HB2.out (Kb.of (by decide)) 3
        clear hV hs hz
        refine outR_val (by kernel_rfl) (v := .slice a1 x.fields.length k1) (w' := W0) ?_ (Ra.refl _ _ _) rfl
        simp [go_sem, q10, e10, x0]
      · intro VV W0 AA g hV hs hz
        have gR : Rb base (L4) W2 W0 := ((raDrew base (L4) W2).trans g).rb
        have p9 : rowV base (L3) (VV 9) W0 := hV 9 (by kernel_rfl)
        have e9 := hs 33 9 (by kernel_rfl) (by kernel_rfl)
        have q11 : VV 11 = .slice a1 x.fields.length k1 := hV 11 (by kernel_rfl)
        have e11 := hs 35 11 (by kernel_rfl) (by kernel_rfl)
        clear hV hs hz
        refine outR_call (by kernel_rfl) (f := 29) ?_ ((C4.out W0 _ (gR.ch) (p9.1) (p9.2)).mono fun e w2 ⟨v, he, ho, hr⟩ => ⟨v, he, Ra.mono hr (List.prefix_refl _), ho, Nat.le_trans (Nat.le_trans hbase gR.size) (hr _ (List.prefix_refl _)).size⟩)
        simp [go_sem, e9, q11, e11]
    · intro VV W0 g hV
      have gA : Ra base (L4) W2 W0 := (raDrew base (L4) W2).trans g
      have h0 : VV 0 = .slice a' L.length c' := hV 0 (by decide)
      have h1 : VV 1 = .pointer (some ⟨wr.heap.size, 0, none⟩) := hV 1 (by decide)
      have h2 : VV 2 = .int .i64 (x.kind) := hV 2 (by decide)
      obtain ⟨p3, _⟩ : rowV base (L1) (VV 3) W0 := hV 3 (by decide)
      obtain ⟨aa3, cc3, h3, _⟩ := p3.toB.shape
      rw [h3] at p3
      have h4 : VV 4 = .pointer (some ⟨wr.heap.size, 1, none⟩) := hV 4 (by decide)
      have h5 : VV 5 = .int .i64 (x.elem) := hV 5 (by decide)
      obtain ⟨p6, _⟩ : rowV base (L2) (VV 6) W0 := hV 6 (by decide)
      obtain ⟨aa6, cc6, h6, _⟩ := p6.toB.shape
      rw [h6] at p6
      have h7 : VV 7 = .pointer (some ⟨wr.heap.size, 2, none⟩) := hV 7 (by decide)
      have h8 : VV 8 = .int .i64 (x.n) := hV 8 (by decide)
      obtain ⟨p9, _⟩ : rowV base (L3) (VV 9) W0 := hV 9 (by decide)
      obtain ⟨aa9, cc9, h9, _⟩ := p9.toB.shape
      rw [h9] at p9
      have h10 : VV 10 = .pointer (some ⟨wr.heap.size, 3, none⟩) := hV 10 (by decide)
      have h11 : VV 11 = .slice a1 x.fields.length k1 := hV 11 (by decide)
      obtain ⟨p12, _⟩ : rowV base (L4) (VV 12) W0 := hV 12 (by decide)
      obtain ⟨aa12, cc12, h12, _⟩ := p12.toB.shape
      rw [h12] at p12
      simp [frV, dstOf, Act.put, h0, h1, h2, h3, h4, h5, h6, h7, h8, h9, h10, h11, h12]
      clear h0 h1 h2 h3 h4 h5 h6 h7 h8 h9 h10 h11 h12 hV g
      have P3 : Hid (OwnL W0 base (.slice aa3 (L1).length cc3) (L1)) := p3
      have P6 : Hid (OwnL W0 base (.slice aa6 (L2).length cc6) (L2)) := p6
      have P9 : Hid (OwnL W0 base (.slice aa9 (L3).length cc9) (L3)) := p9
      have P12 : Hid (OwnL W0 base (.slice aa12 (L4).length cc12) (L4)) := p12
      clear p3 p6 p9 p12
      have GA : Hid (Ra base (L4) W2 W0) := gA
      clear gA
      go_wp2_with fail
      go_roundw
      case rel =>
        refine ⟨k + 1, aa12, cc12, ?_, by go_num, by omega, ?_, ?_⟩
        · rw [HS.out, HX.out, TOT.out]
        · rw [HS.out, HX.out, TOT.out]; exact P12.out
        · intro T hT
          rw [HS.out, HX.out, TOT.out] at hT
          exact ((HR.out T ((PP01.out.trans (PP12.out.trans (PP23.out.trans (PP34.out)))).trans hT)).trans (Rb.of HG2.out)).trans (GA.out T hT)
      case measure => simp [intOf]; omega
end Go.Proofs.Ytljdjkiejppenaa
