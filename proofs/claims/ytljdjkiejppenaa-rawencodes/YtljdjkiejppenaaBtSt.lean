/- gantryref8: the bytes of statements. -/
import Derived.Test.YtljdjkiejppenaaBtEx
namespace Go.Proofs.Ytljdjkiejppenaa
open Go.RowKit
set_option linter.unusedVariables false

def StsB (z : List Pg.St) : Prop := ∀ (base : Nat) (w : World) (v : Value) (l : List Int) (a : Option Addr) (c : Nat), OwnL w base v l → StL (fun k => k < base) w a c z → (Pg.dStL z).may = true → l.length + (Pg.dStL z).en.length ≤ 1000000000 → base ≤ w.heap.size →
  Calls Try.prog 30 #[v, .slice a z.length c] w (BtP base w l (Pg.dStL z).en)
theorem Pg.St.parts (x : Pg.St) (h : x.dl.may = true) : Pg.okB x.op = true ∧ (Pg.dExL x.args).may = true ∧ (Pg.dNumL x.dst).may = true ∧ (Pg.dStL x.a).may = true ∧ (Pg.dStL x.b).may = true ∧ x.dl.en = (Pg.dCnt x.op).en ++ (Pg.dNum x.n).en ++ (Pg.dExL x.args).en ++ (Pg.dNumL x.dst).en ++ (Pg.dStL x.a).en ++ (Pg.dStL x.b).en := by
  rw [Pg.St.dl_eq] at h ⊢
  simp only [Pg.Dl.node, Pg.Dl.app, Bool.and_eq_true] at h ⊢
  obtain ⟨h1, h2, h3, h4, h5, h6⟩ := h
  refine ⟨by rw [← dCnt_may]; exact h1, h3, h4, h5, h6, ?_⟩
  simp only [List.append_assoc]
set_option maxRecDepth 100000 in
set_option maxHeartbeats 8000000 in
theorem stmts_list8 (z : List Pg.St) (ih : ∀ x, x ∈ z → (fun x => StsB x.a ∧ StsB x.b) x) : StsB z := by
  intro base w v l a c h hz hm hl hb
  have hle := hz.le
  have hmx := hz.max
  unfold maxLen at hmx
  rw [Pg.dStL, Pg.dSs_cat] at hm hl ⊢
  simp only [Pg.Dl.app, Bool.and_eq_true, List.length_append] at hm hl
  have HZ : Hid (StL (fun k => k < base) w a c z) := hz
  have HM : Hid ((Pg.dCat Pg.St.dl z).may = true) := hm.2
  have HL : Hid (l.length + ((Pg.dCnt z.length).en.length + (Pg.dCat Pg.St.dl z).en.length) ≤ 1000000000) := hl
  have HI : Hid (∀ x, x ∈ z → (fun x => StsB x.a ∧ StsB x.b) x) := ih
  have hok : Pg.okB (z.length : Int) = true := by rw [← dCnt_may]; exact hm.1
  have hl1 : l.length + (Pg.dCnt (z.length : Int)).en.length ≤ 1000000000 := by
    generalize (Pg.dCnt (z.length : Int)).en.length = A at *
    generalize (Pg.dCat Pg.St.dl z).en.length = C at *
    omega
  have HC : Hid (Calls Try.prog 28 #[v, .int .i64 (z.length : Int)] w (BtP base w l (Pg.dCnt (z.length : Int)).en)) := count8 h hok hl1 hb
  clear hok hl1
  show Calls Try.prog 30 #[v, .slice a z.length c] w (BtP base w l ((Pg.dCnt z.length).en ++ (Pg.dCat Pg.St.dl z).en))
  clear h hm hl hz ih
  go_enter Try.func30, Try.ntmps30
  go_wp2_with (go_at_call 28; refine HC.out.mono ?_; rintro e w4 ⟨u, rfl, ho4, hr4⟩; obtain ⟨a4, c4, rfl, _⟩ := ho4.toB.shape; have O4 : Hid (OwnL w4 base (.slice a4 (l ++ (Pg.dCnt z.length).en).length c4) (l ++ (Pg.dCnt z.length).en)) := ho4; have R4 : Hid (∀ T, l ++ (Pg.dCnt z.length).en <+: T → Rb base T w w4) := hr4; clear ho4 hr4 HC)
  go_loopw [0, 5] (fun bv ix wr => ∃ (k : Nat) (a' : Option Addr) (c' : Nat), bv = .slice a' (l ++ (Pg.dCnt z.length).en ++ (Pg.dCat Pg.St.dl (z.take k)).en).length c' ∧ ix = .int .i64 k ∧ k ≤ z.length ∧ OwnL wr base (.slice a' (l ++ (Pg.dCnt z.length).en ++ (Pg.dCat Pg.St.dl (z.take k)).en).length c') (l ++ (Pg.dCnt z.length).en ++ (Pg.dCat Pg.St.dl (z.take k)).en) ∧ (∀ T, l ++ (Pg.dCnt z.length).en ++ (Pg.dCat Pg.St.dl (z.take k)).en <+: T → Rb base T w wr)) (fun _ ix _ => z.length - (intOf ix).toNat)
  case atStart => exact ⟨0, a4, c4, by simp [Pg.dCat, Pg.Dl.nil], rfl, Nat.zero_le _, by simpa [Pg.dCat, Pg.Dl.nil] using O4.out, by simpa [Pg.dCat, Pg.Dl.nil] using R4.out⟩
  case round =>
    obtain ⟨k, a', c', rfl, rfl, hk, ho, hr⟩ := hrel
    have HR : Hid (∀ T, l ++ (Pg.dCnt z.length).en ++ (Pg.dCat Pg.St.dl (z.take k)).en <+: T → Rb base T w wr) := hr
    by_cases hkn : k < z.length
    case neg =>
      obtain rfl : k = z.length := by omega
      have HO : Hid (OwnL wr base (.slice a' (l ++ (Pg.dCnt z.length).en ++ (Pg.dCat Pg.St.dl (z.take z.length)).en).length c') (l ++ (Pg.dCnt z.length).en ++ (Pg.dCat Pg.St.dl (z.take z.length)).en)) := ho
      clear ho hr
      generalize hLL : (l ++ (Pg.dCnt z.length).en ++ (Pg.dCat Pg.St.dl (z.take z.length)).en).length = LL at *
      go_wp2
      go_ret
      have e : l ++ ((Pg.dCnt z.length).en ++ (Pg.dCat Pg.St.dl z).en) = l ++ (Pg.dCnt z.length).en ++ (Pg.dCat Pg.St.dl (z.take z.length)).en := by rw [List.take_length, List.append_assoc]
      refine ⟨_, rfl, by rw [e]; exact HO.out, fun T hT => HR.out T (by rw [← e]; exact hT)⟩
    have hkn' : (k : Int) < z.length := by omega
    have hrow : StL (fun k => k < base) wr a c z := StL.ch HZ.out (hr _ (List.prefix_refl _)).ch (fun k hk => not_rangeB hk) (fun _ h => h)
    obtain ⟨b, o, rfl, hbb, hx⟩ := hrow.at hkn
    have hsz : base ≤ wr.heap.size := Nat.le_trans hb (hr _ (List.prefix_refl _)).size
    have hsc := Pg.dCat_succ Pg.St.dl hkn
    obtain ⟨_, _, q3, q4⟩ := Pg.dCat_le Pg.St.dl z (k + 1)
    have hmk := q4 HM.out
    rw [hsc] at q3 hmk
    simp only [Pg.Dl.app, Bool.and_eq_true, List.length_append] at q3 hmk
    have HS : Hid (l ++ (Pg.dCnt z.length).en ++ (Pg.dCat Pg.St.dl (z.take (k + 1))).en = l ++ (Pg.dCnt z.length).en ++ (Pg.dCat Pg.St.dl (z.take k)).en ++ (Pg.St.dl z[k]).en) := by
      show _ = _
      rw [hsc, Pg.Dl.app, List.append_assoc _ (Pg.dCat Pg.St.dl (z.take k)).en]
    have hlen : (l ++ (Pg.dCnt z.length).en ++ (Pg.dCat Pg.St.dl (z.take k)).en).length + (Pg.St.dl z[k]).en.length ≤ 1000000000 := by
      have := HL.out
      simp only [List.length_append]
      omega
    generalize hLL : l ++ (Pg.dCnt z.length).en ++ (Pg.dCat Pg.St.dl (z.take k)).en = L at *
    obtain ⟨a1, a2, a3, a4, k1, k2, k3, k4, he⟩ := hx.row
    have c0 := he.c0
    have c1 := he.c1
    have c2 := he.c2
    have c3 := he.c3
    have c4' := he.c4
    have c5 := he.c5
    have hbb : b < base := hbb
    have HI2 := HI.out z[k] (List.getElem_mem hkn)
    have HO : Hid (OwnL wr base (.slice a' L.length c') L) := ho
    obtain ⟨q1, q2, q3', q4', q5, q6⟩ := Pg.St.parts z[k] hmk.2
    have HX : Hid ((Pg.St.dl z[k]).en = (Pg.dCnt z[k].op).en ++ (Pg.dNum z[k].n).en ++ (Pg.dExL z[k].args).en ++ (Pg.dNumL z[k].dst).en ++ (Pg.dStL z[k].a).en ++ (Pg.dStL z[k].b).en) := q6
    have hl := hlen
    rw [q6] at hl
    have hbase := hsz
    clear hr hx hrow hsc q3 q4 hmk hlen ho q6
    generalize z[k] = x at *
    obtain ⟨L1, hL1⟩ : ∃ z, z = L ++ (Pg.dCnt x.op).en := ⟨_, rfl⟩
    obtain ⟨L2, hL2⟩ : ∃ z, z = L1 ++ (Pg.dNum x.n).en := ⟨_, rfl⟩
    obtain ⟨L3, hL3⟩ : ∃ z, z = L2 ++ (Pg.dExL x.args).en := ⟨_, rfl⟩
    obtain ⟨L4, hL4⟩ : ∃ z, z = L3 ++ (Pg.dNumL x.dst).en := ⟨_, rfl⟩
    obtain ⟨L5, hL5⟩ : ∃ z, z = L4 ++ (Pg.dStL x.a).en := ⟨_, rfl⟩
    obtain ⟨L6, hL6⟩ : ∃ z, z = L5 ++ (Pg.dStL x.b).en := ⟨_, rfl⟩
    have TOT : Hid (L ++ ((Pg.dCnt x.op).en ++ (Pg.dNum x.n).en ++ (Pg.dExL x.args).en ++ (Pg.dNumL x.dst).en ++ (Pg.dStL x.a).en ++ (Pg.dStL x.b).en) = L6) := by
      show _ = _
      rw [hL6, hL5, hL4, hL3, hL2, hL1]
      simp only [List.append_assoc]
    have hLN := hl
    simp only [List.length_append] at hLN
    have NN1 : L.length + ((Pg.dCnt x.op).en).length ≤ 1000000000 := by
      try simp only [List.length_append]
      omega
    have PP01 : Hid (L <+: L1) := pre_eq hL1
    have C1 : Hid (∀ W v, Ch wr W (List.range' base (wr.heap.size - base)) → OwnL W base v L → base ≤ W.heap.size → Calls Try.prog 28 #[v, .int .i64 x.op] W (BtQ base W L1)) := fun W v hR h hb => BtP.q (count8 h q1 NN1 hb) hL1
    have NN2 : L1.length + ((Pg.dNum x.n).en).length ≤ 1000000000 := by
      rw [hL1]
      try simp only [List.length_append]
      omega
    have PP12 : Hid (L1 <+: L2) := pre_eq hL2
    have C2 : Hid (∀ W v, Ch wr W (List.range' base (wr.heap.size - base)) → OwnL W base v L1 → base ≤ W.heap.size → Calls Try.prog 56 #[v, .int .i64 x.n] W (BtQ base W L2)) := fun W v hR h hb => BtP.q (number8 h he.rg NN2 hb) hL2
    have NN3 : L2.length + ((Pg.dExL x.args).en).length ≤ 1000000000 := by
      rw [hL2, hL1]
      try simp only [List.length_append]
      omega
    have PP23 : Hid (L2 <+: L3) := pre_eq hL3
    have C3 : Hid (∀ W v, Ch wr W (List.range' base (wr.heap.size - base)) → OwnL W base v L2 → base ≤ W.heap.size → Calls Try.prog 55 #[v, .slice a1 x.args.length k1] W (BtQ base W L3)) := fun W v hR h hb => BtP.q (exprs8_any x.args base W v L2 a1 k1 h (ExL.ch he.args hR (fun k hk => not_rangeB hk) (fun _ h => h)) q2 NN3 hb) hL3
    have NN4 : L3.length + ((Pg.dNumL x.dst).en).length ≤ 1000000000 := by
      rw [hL3, hL2, hL1]
      try simp only [List.length_append]
      omega
    have PP34 : Hid (L3 <+: L4) := pre_eq hL4
    have C4 : Hid (∀ W v, Ch wr W (List.range' base (wr.heap.size - base)) → OwnL W base v L3 → base ≤ W.heap.size → Calls Try.prog 29 #[v, .slice a2 x.dst.length k2] W (BtQ base W L4)) := fun W v hR h hb => BtP.q (counts8 h (NumL.ch he.dst hR (fun k hk => not_rangeB hk) (fun _ h => h)) q3' NN4 hb) hL4
    have NN5 : L4.length + ((Pg.dStL x.a).en).length ≤ 1000000000 := by
      rw [hL4, hL3, hL2, hL1]
      try simp only [List.length_append]
      omega
    have PP45 : Hid (L4 <+: L5) := pre_eq hL5
    have C5 : Hid (∀ W v, Ch wr W (List.range' base (wr.heap.size - base)) → OwnL W base v L4 → base ≤ W.heap.size → Calls Try.prog 30 #[v, .slice a3 x.a.length k3] W (BtQ base W L5)) := fun W v hR h hb => BtP.q (HI2.1 base W v L4 a3 k3 h (StL.ch he.a hR (fun k hk => not_rangeB hk) (fun _ h => h)) q4' NN5 hb) hL5
    have NN6 : L5.length + ((Pg.dStL x.b).en).length ≤ 1000000000 := by
      rw [hL5, hL4, hL3, hL2, hL1]
      try simp only [List.length_append]
      omega
    have PP56 : Hid (L5 <+: L6) := pre_eq hL6
    have C6 : Hid (∀ W v, Ch wr W (List.range' base (wr.heap.size - base)) → OwnL W base v L5 → base ≤ W.heap.size → Calls Try.prog 30 #[v, .slice a4 x.b.length k4] W (BtQ base W L6)) := fun W v hR h hb => BtP.q (HI2.2 base W v L5 a4 k4 h (StL.ch he.b hR (fun k hk => not_rangeB hk) (fun _ h => h)) q5 NN6 hb) hL6
    clear he q1 q2 q3' q4' q5 hl hLN HI2 hL1 hL2 hL3 hL4 hL5 hL6 NN1 NN2 NN3 NN4 NN5 NN6
    go_wp2_with fail
    refine region_rel (Ra base (L3)) (fun h1 h2 => Ra.trans h1 h2) (fun w => Ra.refl _ _ w) 19 (psiL [eqV (.slice a' L.length c'), eqV (.slice (some ⟨b, o, none⟩) z.length c), eqV (.int .i64 (k : Int)), eqV (.pointer (some ⟨b, o + k * 6, none⟩)), eqV (.pointer (some ⟨b, o + k * 6, none⟩)), eqV (.int .i64 (x.op)), rowV base (L1), eqV (.slice (some ⟨b, o, none⟩) z.length c), eqV (.int .i64 (k : Int)), eqV (.pointer (some ⟨b, o + k * 6, none⟩)), eqV (.pointer (some ⟨b, o + k * 6 + 1, none⟩)), eqV (.int .i64 (x.n)), rowV base (L2), eqV (.slice (some ⟨b, o, none⟩) z.length c), eqV (.int .i64 (k : Int)), eqV (.pointer (some ⟨b, o + k * 6, none⟩)), eqV (.pointer (some ⟨b, o + k * 6 + 2, none⟩)), eqV (.slice a1 x.args.length k1), rowV base (L3)]) (by kernel_rfl) (by kernel_rfl) (by kernel_rfl) (by kernel_rfl) (psiLR_hst (by repeat (first | exact stabLR_nil | refine stabLR_cons ?_ ?_ | exact stabR_eq _ _ | exact stabR_row ((PP12.out.trans (PP23.out))) | exact stabR_row ((PP23.out)) | exact stabR_row (List.prefix_refl _)))) ?_ ?_
    · simp only [List.take_succ_cons, List.take_zero]
      refine ⟨?_, ?_, ?_, ?_, ?_, ?_, ?_, ?_, ?_, ?_, ?_, ?_, ?_, ?_, ?_, ?_, ?_, ?_, ?_, trivial⟩
      · intro VV W0 AA g hV hs hz
        have gR : Rb base (L3) wr W0 := ((raDrew base (L3) wr).trans g).rb
        have e00 := hz 0 (.slice a' L.length c') (by kernel_rfl) rfl
        clear hV hs hz
        refine outR_val (by kernel_rfl) (v := .slice a' L.length c') (w' := W0) ?_ (Ra.refl _ _ _) rfl
        simp [go_sem, e00]
      · intro VV W0 AA g hV hs hz
        have gR : Rb base (L3) wr W0 := ((raDrew base (L3) wr).trans g).rb
        have e01 := hz 1 (.slice (some ⟨b, o, none⟩) z.length c) (by kernel_rfl) rfl
        clear hV hs hz
        refine outR_val (by kernel_rfl) (v := .slice (some ⟨b, o, none⟩) z.length c) (w' := W0) ?_ (Ra.refl _ _ _) rfl
        simp [go_sem, e01]
      · intro VV W0 AA g hV hs hz
        have gR : Rb base (L3) wr W0 := ((raDrew base (L3) wr).trans g).rb
        have e05 := hz 5 (.int .i64 (k : Int)) (by kernel_rfl) rfl
        clear hV hs hz
        refine outR_val (by kernel_rfl) (v := .int .i64 (k : Int)) (w' := W0) ?_ (Ra.refl _ _ _) rfl
        simp [go_sem, e05]
      · intro VV W0 AA g hV hs hz
        have gR : Rb base (L3) wr W0 := ((raDrew base (L3) wr).trans g).rb
        have q1 : VV 1 = .slice (some ⟨b, o, none⟩) z.length c := hV 1 (by kernel_rfl)
        have e1 := hs 17 1 (by kernel_rfl) (by kernel_rfl)
        have q2 : VV 2 = .int .i64 (k : Int) := hV 2 (by kernel_rfl)
        have e2 := hs 18 2 (by kernel_rfl) (by kernel_rfl)
        clear hV hs hz
        refine outR_val (by kernel_rfl) (v := .pointer (some ⟨b, o + k * 6, none⟩)) (w' := W0) ?_ (Ra.refl _ _ _) rfl
        simp [go_sem, q1, e1, q2, e2, hkn']
      · intro VV W0 AA g hV hs hz
        have gR : Rb base (L3) wr W0 := ((raDrew base (L3) wr).trans g).rb
        have q3 : VV 3 = .pointer (some ⟨b, o + k * 6, none⟩) := hV 3 (by kernel_rfl)
        have e3 := hs 19 3 (by kernel_rfl) (by kernel_rfl)
        clear hV hs hz
        refine outR_val (by kernel_rfl) (v := .pointer (some ⟨b, o + k * 6, none⟩)) (w' := W0) ?_ (Ra.refl _ _ _) rfl
        simp [go_sem, q3, e3]
      · intro VV W0 AA g hV hs hz
        have gR : Rb base (L3) wr W0 := ((raDrew base (L3) wr).trans g).rb
        have q4 : VV 4 = .pointer (some ⟨b, o + k * 6, none⟩) := hV 4 (by kernel_rfl)
        have e4 := hs 20 4 (by kernel_rfl) (by kernel_rfl)
        have x0 := gR.low c0 hbb
        clear hV hs hz
        refine outR_val (by kernel_rfl) (v := .int .i64 (x.op)) (w' := W0) ?_ (Ra.refl _ _ _) rfl
        simp [go_sem, q4, e4, x0]
      · intro VV W0 AA g hV hs hz
        have gR : Rb base (L3) wr W0 := ((raDrew base (L3) wr).trans g).rb
        have q0 : VV 0 = .slice a' L.length c' := hV 0 (by kernel_rfl)
        have e0 := hs 16 0 (by kernel_rfl) (by kernel_rfl)
        have q5 : VV 5 = .int .i64 (x.op) := hV 5 (by kernel_rfl)
        have e5 := hs 21 5 (by kernel_rfl) (by kernel_rfl)
        clear hV hs hz
        refine outR_call (by kernel_rfl) (f := 28) ?_ ((C1.out W0 _ (gR.ch) (gR.own _ _ (PP01.out.trans (PP12.out.trans (PP23.out))) HO.out) (Nat.le_trans hbase gR.size)).mono fun e w2 ⟨v, he, ho, hr⟩ => ⟨v, he, Ra.mono hr ((PP12.out.trans (PP23.out))), ho, Nat.le_trans (Nat.le_trans hbase gR.size) (hr _ (List.prefix_refl _)).size⟩)
        simp [go_sem, q0, e0, q5, e5]
      · intro VV W0 AA g hV hs hz
        have gR : Rb base (L3) wr W0 := ((raDrew base (L3) wr).trans g).rb
        have e01 := hz 1 (.slice (some ⟨b, o, none⟩) z.length c) (by kernel_rfl) rfl
        clear hV hs hz
        refine outR_val (by kernel_rfl) (v := .slice (some ⟨b, o, none⟩) z.length c) (w' := W0) ?_ (Ra.refl _ _ _) rfl
        simp [go_sem, e01]
      · intro VV W0 AA g hV hs hz
        have gR : Rb base (L3) wr W0 := ((raDrew base (L3) wr).trans g).rb
        have e05 := hz 5 (.int .i64 (k : Int)) (by kernel_rfl) rfl
        clear hV hs hz
        refine outR_val (by kernel_rfl) (v := .int .i64 (k : Int)) (w' := W0) ?_ (Ra.refl _ _ _) rfl
        simp [go_sem, e05]
      · intro VV W0 AA g hV hs hz
        have gR : Rb base (L3) wr W0 := ((raDrew base (L3) wr).trans g).rb
        have q7 : VV 7 = .slice (some ⟨b, o, none⟩) z.length c := hV 7 (by kernel_rfl)
        have e7 := hs 23 7 (by kernel_rfl) (by kernel_rfl)
        have q8 : VV 8 = .int .i64 (k : Int) := hV 8 (by kernel_rfl)
        have e8 := hs 24 8 (by kernel_rfl) (by kernel_rfl)
        clear hV hs hz
        refine outR_val (by kernel_rfl) (v := .pointer (some ⟨b, o + k * 6, none⟩)) (w' := W0) ?_ (Ra.refl _ _ _) rfl
        simp [go_sem, q7, e7, q8, e8, hkn']
      · intro VV W0 AA g hV hs hz
        have gR : Rb base (L3) wr W0 := ((raDrew base (L3) wr).trans g).rb
        have q9 : VV 9 = .pointer (some ⟨b, o + k * 6, none⟩) := hV 9 (by kernel_rfl)
        have e9 := hs 25 9 (by kernel_rfl) (by kernel_rfl)
        clear hV hs hz
        refine outR_val (by kernel_rfl) (v := .pointer (some ⟨b, o + k * 6 + 1, none⟩)) (w' := W0) ?_ (Ra.refl _ _ _) rfl
        simp [go_sem, q9, e9]
      · intro VV W0 AA g hV hs hz
        have gR : Rb base (L3) wr W0 := ((raDrew base (L3) wr).trans g).rb
        have q10 : VV 10 = .pointer (some ⟨b, o + k * 6 + 1, none⟩) := hV 10 (by kernel_rfl)
        have e10 := hs 26 10 (by kernel_rfl) (by kernel_rfl)
        have x0 := gR.low c1 hbb
        clear hV hs hz
        refine outR_val (by kernel_rfl) (v := .int .i64 (x.n)) (w' := W0) ?_ (Ra.refl _ _ _) rfl
        simp [go_sem, q10, e10, x0]
      · intro VV W0 AA g hV hs hz
        have gR : Rb base (L3) wr W0 := ((raDrew base (L3) wr).trans g).rb
        have p6 : rowV base (L1) (VV 6) W0 := hV 6 (by kernel_rfl)
        have e6 := hs 22 6 (by kernel_rfl) (by kernel_rfl)
        have q11 : VV 11 = .int .i64 (x.n) := hV 11 (by kernel_rfl)
        have e11 := hs 27 11 (by kernel_rfl) (by kernel_rfl)
        clear hV hs hz
        refine outR_call (by kernel_rfl) (f := 56) ?_ ((C2.out W0 _ (gR.ch) (p6.1) (p6.2)).mono fun e w2 ⟨v, he, ho, hr⟩ => ⟨v, he, Ra.mono hr ((PP23.out)), ho, Nat.le_trans (Nat.le_trans hbase gR.size) (hr _ (List.prefix_refl _)).size⟩)
        simp [go_sem, e6, q11, e11]
      · intro VV W0 AA g hV hs hz
        have gR : Rb base (L3) wr W0 := ((raDrew base (L3) wr).trans g).rb
        have e01 := hz 1 (.slice (some ⟨b, o, none⟩) z.length c) (by kernel_rfl) rfl
        clear hV hs hz
        refine outR_val (by kernel_rfl) (v := .slice (some ⟨b, o, none⟩) z.length c) (w' := W0) ?_ (Ra.refl _ _ _) rfl
        simp [go_sem, e01]
      · intro VV W0 AA g hV hs hz
        have gR : Rb base (L3) wr W0 := ((raDrew base (L3) wr).trans g).rb
        have e05 := hz 5 (.int .i64 (k : Int)) (by kernel_rfl) rfl
        clear hV hs hz
        refine outR_val (by kernel_rfl) (v := .int .i64 (k : Int)) (w' := W0) ?_ (Ra.refl _ _ _) rfl
        simp [go_sem, e05]
      · intro VV W0 AA g hV hs hz
        have gR : Rb base (L3) wr W0 := ((raDrew base (L3) wr).trans g).rb
        have q13 : VV 13 = .slice (some ⟨b, o, none⟩) z.length c := hV 13 (by kernel_rfl)
        have e13 := hs 29 13 (by kernel_rfl) (by kernel_rfl)
        have q14 : VV 14 = .int .i64 (k : Int) := hV 14 (by kernel_rfl)
        have e14 := hs 30 14 (by kernel_rfl) (by kernel_rfl)
        clear hV hs hz
        refine outR_val (by kernel_rfl) (v := .pointer (some ⟨b, o + k * 6, none⟩)) (w' := W0) ?_ (Ra.refl _ _ _) rfl
        simp [go_sem, q13, e13, q14, e14, hkn']
      · intro VV W0 AA g hV hs hz
        have gR : Rb base (L3) wr W0 := ((raDrew base (L3) wr).trans g).rb
        have q15 : VV 15 = .pointer (some ⟨b, o + k * 6, none⟩) := hV 15 (by kernel_rfl)
        have e15 := hs 31 15 (by kernel_rfl) (by kernel_rfl)
        clear hV hs hz
        refine outR_val (by kernel_rfl) (v := .pointer (some ⟨b, o + k * 6 + 2, none⟩)) (w' := W0) ?_ (Ra.refl _ _ _) rfl
        simp [go_sem, q15, e15]
      · intro VV W0 AA g hV hs hz
        have gR : Rb base (L3) wr W0 := ((raDrew base (L3) wr).trans g).rb
        have q16 : VV 16 = .pointer (some ⟨b, o + k * 6 + 2, none⟩) := hV 16 (by kernel_rfl)
        have e16 := hs 32 16 (by kernel_rfl) (by kernel_rfl)
        have x0 := gR.low c2 hbb
        clear hV hs hz
        refine outR_val (by kernel_rfl) (v := .slice a1 x.args.length k1) (w' := W0) ?_ (Ra.refl _ _ _) rfl
        simp [go_sem, q16, e16, x0]
      · intro VV W0 AA g hV hs hz
        have gR : Rb base (L3) wr W0 := ((raDrew base (L3) wr).trans g).rb
        have p12 : rowV base (L2) (VV 12) W0 := hV 12 (by kernel_rfl)
        have e12 := hs 28 12 (by kernel_rfl) (by kernel_rfl)
        have q17 : VV 17 = .slice a1 x.args.length k1 := hV 17 (by kernel_rfl)
        have e17 := hs 33 17 (by kernel_rfl) (by kernel_rfl)
        clear hV hs hz
        refine outR_call (by kernel_rfl) (f := 55) ?_ ((C3.out W0 _ (gR.ch) (p12.1) (p12.2)).mono fun e w2 ⟨v, he, ho, hr⟩ => ⟨v, he, Ra.mono hr (List.prefix_refl _), ho, Nat.le_trans (Nat.le_trans hbase gR.size) (hr _ (List.prefix_refl _)).size⟩)
        simp [go_sem, e12, q17, e17]
    · intro VV W0 g hV
      have gA : Ra base (L3) wr W0 := (raDrew base (L3) wr).trans g
      have h0 : VV 0 = .slice a' L.length c' := hV 0 (by decide)
      have h1 : VV 1 = .slice (some ⟨b, o, none⟩) z.length c := hV 1 (by decide)
      have h2 : VV 2 = .int .i64 (k : Int) := hV 2 (by decide)
      have h3 : VV 3 = .pointer (some ⟨b, o + k * 6, none⟩) := hV 3 (by decide)
      have h4 : VV 4 = .pointer (some ⟨b, o + k * 6, none⟩) := hV 4 (by decide)
      have h5 : VV 5 = .int .i64 (x.op) := hV 5 (by decide)
      obtain ⟨p6, _⟩ : rowV base (L1) (VV 6) W0 := hV 6 (by decide)
      obtain ⟨aa6, cc6, h6, _⟩ := p6.toB.shape
      rw [h6] at p6
      have h7 : VV 7 = .slice (some ⟨b, o, none⟩) z.length c := hV 7 (by decide)
      have h8 : VV 8 = .int .i64 (k : Int) := hV 8 (by decide)
      have h9 : VV 9 = .pointer (some ⟨b, o + k * 6, none⟩) := hV 9 (by decide)
      have h10 : VV 10 = .pointer (some ⟨b, o + k * 6 + 1, none⟩) := hV 10 (by decide)
      have h11 : VV 11 = .int .i64 (x.n) := hV 11 (by decide)
      obtain ⟨p12, _⟩ : rowV base (L2) (VV 12) W0 := hV 12 (by decide)
      obtain ⟨aa12, cc12, h12, _⟩ := p12.toB.shape
      rw [h12] at p12
      have h13 : VV 13 = .slice (some ⟨b, o, none⟩) z.length c := hV 13 (by decide)
      have h14 : VV 14 = .int .i64 (k : Int) := hV 14 (by decide)
      have h15 : VV 15 = .pointer (some ⟨b, o + k * 6, none⟩) := hV 15 (by decide)
      have h16 : VV 16 = .pointer (some ⟨b, o + k * 6 + 2, none⟩) := hV 16 (by decide)
      have h17 : VV 17 = .slice a1 x.args.length k1 := hV 17 (by decide)
      obtain ⟨p18, _⟩ : rowV base (L3) (VV 18) W0 := hV 18 (by decide)
      obtain ⟨aa18, cc18, h18, _⟩ := p18.toB.shape
      rw [h18] at p18
      simp [frV, dstOf, Act.put, h0, h1, h2, h3, h4, h5, h6, h7, h8, h9, h10, h11, h12, h13, h14, h15, h16, h17, h18]
      clear h0 h1 h2 h3 h4 h5 h6 h7 h8 h9 h10 h11 h12 h13 h14 h15 h16 h17 h18 hV g
      have P6 : Hid (OwnL W0 base (.slice aa6 (L1).length cc6) (L1)) := p6
      have P12 : Hid (OwnL W0 base (.slice aa12 (L2).length cc12) (L2)) := p12
      have P18 : Hid (OwnL W0 base (.slice aa18 (L3).length cc18) (L3)) := p18
      clear p6 p12 p18
      have GA : Hid (Ra base (L3) wr W0) := gA
      clear gA
      obtain ⟨W2, hW2⟩ : ∃ z, z = W0 := ⟨_, rfl⟩
      subst hW2
      have HR2 : Hid (Ra base L3 wr W2) := GA.out
      have HO3 : Hid (OwnL W2 base (.slice aa18 L3.length cc18) L3) := P18.out
      have hb2 : base ≤ W2.heap.size := Nat.le_trans hbase HR2.out.rb.size
      clear P6 P12 P18 GA
      go_wp2_with fail
      refine region_rel (Ra base (L6)) (fun h1 h2 => Ra.trans h1 h2) (fun w => Ra.refl _ _ w) 19 (psiL [eqV (.slice aa18 L3.length cc18), eqV (.slice (some ⟨b, o, none⟩) z.length c), eqV (.int .i64 (k : Int)), eqV (.pointer (some ⟨b, o + k * 6, none⟩)), eqV (.pointer (some ⟨b, o + k * 6 + 3, none⟩)), eqV (.slice a2 x.dst.length k2), rowV base (L4), eqV (.slice (some ⟨b, o, none⟩) z.length c), eqV (.int .i64 (k : Int)), eqV (.pointer (some ⟨b, o + k * 6, none⟩)), eqV (.pointer (some ⟨b, o + k * 6 + 4, none⟩)), eqV (.slice a3 x.a.length k3), rowV base (L5), eqV (.slice (some ⟨b, o, none⟩) z.length c), eqV (.int .i64 (k : Int)), eqV (.pointer (some ⟨b, o + k * 6, none⟩)), eqV (.pointer (some ⟨b, o + k * 6 + 5, none⟩)), eqV (.slice a4 x.b.length k4), rowV base (L6)]) (by kernel_rfl) (by kernel_rfl) (by kernel_rfl) (by kernel_rfl) (psiLR_hst (by repeat (first | exact stabLR_nil | refine stabLR_cons ?_ ?_ | exact stabR_eq _ _ | exact stabR_row ((PP45.out.trans (PP56.out))) | exact stabR_row ((PP56.out)) | exact stabR_row (List.prefix_refl _)))) ?_ ?_
      · simp only [List.take_succ_cons, List.take_zero]
        refine ⟨?_, ?_, ?_, ?_, ?_, ?_, ?_, ?_, ?_, ?_, ?_, ?_, ?_, ?_, ?_, ?_, ?_, ?_, ?_, trivial⟩
        · intro VV W0 AA g hV hs hz
          have gR : Rb base (L6) W2 W0 := ((raDrew base (L6) W2).trans g).rb
          have e00 := hz 0 (.slice aa18 L3.length cc18) (by kernel_rfl) rfl
          clear hV hs hz
          refine outR_val (by kernel_rfl) (v := .slice aa18 L3.length cc18) (w' := W0) ?_ (Ra.refl _ _ _) rfl
          simp [go_sem, e00]
        · intro VV W0 AA g hV hs hz
          have gR : Rb base (L6) W2 W0 := ((raDrew base (L6) W2).trans g).rb
          have e01 := hz 1 (.slice (some ⟨b, o, none⟩) z.length c) (by kernel_rfl) rfl
          clear hV hs hz
          refine outR_val (by kernel_rfl) (v := .slice (some ⟨b, o, none⟩) z.length c) (w' := W0) ?_ (Ra.refl _ _ _) rfl
          simp [go_sem, e01]
        · intro VV W0 AA g hV hs hz
          have gR : Rb base (L6) W2 W0 := ((raDrew base (L6) W2).trans g).rb
          have e05 := hz 5 (.int .i64 (k : Int)) (by kernel_rfl) rfl
          clear hV hs hz
          refine outR_val (by kernel_rfl) (v := .int .i64 (k : Int)) (w' := W0) ?_ (Ra.refl _ _ _) rfl
          simp [go_sem, e05]
        · intro VV W0 AA g hV hs hz
          have gR : Rb base (L6) W2 W0 := ((raDrew base (L6) W2).trans g).rb
          have q1 : VV 1 = .slice (some ⟨b, o, none⟩) z.length c := hV 1 (by kernel_rfl)
          have e1 := hs 36 1 (by kernel_rfl) (by kernel_rfl)
          have q2 : VV 2 = .int .i64 (k : Int) := hV 2 (by kernel_rfl)
          have e2 := hs 37 2 (by kernel_rfl) (by kernel_rfl)
          clear hV hs hz
          refine outR_val (by kernel_rfl) (v := .pointer (some ⟨b, o + k * 6, none⟩)) (w' := W0) ?_ (Ra.refl _ _ _) rfl
          simp [go_sem, q1, e1, q2, e2, hkn']
        · intro VV W0 AA g hV hs hz
          have gR : Rb base (L6) W2 W0 := ((raDrew base (L6) W2).trans g).rb
          have q3 : VV 3 = .pointer (some ⟨b, o + k * 6, none⟩) := hV 3 (by kernel_rfl)
          have e3 := hs 38 3 (by kernel_rfl) (by kernel_rfl)
          clear hV hs hz
          refine outR_val (by kernel_rfl) (v := .pointer (some ⟨b, o + k * 6 + 3, none⟩)) (w' := W0) ?_ (Ra.refl _ _ _) rfl
          simp [go_sem, q3, e3]
        · intro VV W0 AA g hV hs hz
          have gR : Rb base (L6) W2 W0 := ((raDrew base (L6) W2).trans g).rb
          have q4 : VV 4 = .pointer (some ⟨b, o + k * 6 + 3, none⟩) := hV 4 (by kernel_rfl)
          have e4 := hs 39 4 (by kernel_rfl) (by kernel_rfl)
          have x0 := (HR2.out.trans_rb gR (PP34.out.trans (PP45.out.trans (PP56.out)))).low c3 hbb
          clear hV hs hz
          refine outR_val (by kernel_rfl) (v := .slice a2 x.dst.length k2) (w' := W0) ?_ (Ra.refl _ _ _) rfl
          simp [go_sem, q4, e4, x0]
        · intro VV W0 AA g hV hs hz
          have gR : Rb base (L6) W2 W0 := ((raDrew base (L6) W2).trans g).rb
          have q0 : VV 0 = .slice aa18 L3.length cc18 := hV 0 (by kernel_rfl)
          have e0 := hs 35 0 (by kernel_rfl) (by kernel_rfl)
          have q5 : VV 5 = .slice a2 x.dst.length k2 := hV 5 (by kernel_rfl)
          have e5 := hs 40 5 (by kernel_rfl) (by kernel_rfl)
          clear hV hs hz
          refine outR_call (by kernel_rfl) (f := 29) ?_ ((C4.out W0 _ ((HR2.out.trans_rb gR (PP34.out.trans (PP45.out.trans (PP56.out)))).ch) (gR.own _ _ (PP34.out.trans (PP45.out.trans (PP56.out))) HO3.out) (Nat.le_trans hb2 gR.size)).mono fun e w2 ⟨v, he, ho, hr⟩ => ⟨v, he, Ra.mono hr ((PP45.out.trans (PP56.out))), ho, Nat.le_trans (Nat.le_trans hb2 gR.size) (hr _ (List.prefix_refl _)).size⟩)
          simp [go_sem, q0, e0, q5, e5]
        · intro VV W0 AA g hV hs hz
          have gR : Rb base (L6) W2 W0 := ((raDrew base (L6) W2).trans g).rb
          have e01 := hz 1 (.slice (some ⟨b, o, none⟩) z.length c) (by kernel_rfl) rfl
          clear hV hs hz
          refine outR_val (by kernel_rfl) (v := .slice (some ⟨b, o, none⟩) z.length c) (w' := W0) ?_ (Ra.refl _ _ _) rfl
          simp [go_sem, e01]
        · intro VV W0 AA g hV hs hz
          have gR : Rb base (L6) W2 W0 := ((raDrew base (L6) W2).trans g).rb
          have e05 := hz 5 (.int .i64 (k : Int)) (by kernel_rfl) rfl
          clear hV hs hz
          refine outR_val (by kernel_rfl) (v := .int .i64 (k : Int)) (w' := W0) ?_ (Ra.refl _ _ _) rfl
          simp [go_sem, e05]
        · intro VV W0 AA g hV hs hz
          have gR : Rb base (L6) W2 W0 := ((raDrew base (L6) W2).trans g).rb
          have q7 : VV 7 = .slice (some ⟨b, o, none⟩) z.length c := hV 7 (by kernel_rfl)
          have e7 := hs 42 7 (by kernel_rfl) (by kernel_rfl)
          have q8 : VV 8 = .int .i64 (k : Int) := hV 8 (by kernel_rfl)
          have e8 := hs 43 8 (by kernel_rfl) (by kernel_rfl)
          clear hV hs hz
          refine outR_val (by kernel_rfl) (v := .pointer (some ⟨b, o + k * 6, none⟩)) (w' := W0) ?_ (Ra.refl _ _ _) rfl
          simp [go_sem, q7, e7, q8, e8, hkn']
        · intro VV W0 AA g hV hs hz
          have gR : Rb base (L6) W2 W0 := ((raDrew base (L6) W2).trans g).rb
          have q9 : VV 9 = .pointer (some ⟨b, o + k * 6, none⟩) := hV 9 (by kernel_rfl)
          have e9 := hs 44 9 (by kernel_rfl) (by kernel_rfl)
          clear hV hs hz
          refine outR_val (by kernel_rfl) (v := .pointer (some ⟨b, o + k * 6 + 4, none⟩)) (w' := W0) ?_ (Ra.refl _ _ _) rfl
          simp [go_sem, q9, e9]
        · intro VV W0 AA g hV hs hz
          have gR : Rb base (L6) W2 W0 := ((raDrew base (L6) W2).trans g).rb
          have q10 : VV 10 = .pointer (some ⟨b, o + k * 6 + 4, none⟩) := hV 10 (by kernel_rfl)
          have e10 := hs 45 10 (by kernel_rfl) (by kernel_rfl)
          have x0 := (HR2.out.trans_rb gR (PP34.out.trans (PP45.out.trans (PP56.out)))).low c4' hbb
          clear hV hs hz
          refine outR_val (by kernel_rfl) (v := .slice a3 x.a.length k3) (w' := W0) ?_ (Ra.refl _ _ _) rfl
          simp [go_sem, q10, e10, x0]
        · intro VV W0 AA g hV hs hz
          have gR : Rb base (L6) W2 W0 := ((raDrew base (L6) W2).trans g).rb
          have p6 : rowV base (L4) (VV 6) W0 := hV 6 (by kernel_rfl)
          have e6 := hs 41 6 (by kernel_rfl) (by kernel_rfl)
          have q11 : VV 11 = .slice a3 x.a.length k3 := hV 11 (by kernel_rfl)
          have e11 := hs 46 11 (by kernel_rfl) (by kernel_rfl)
          clear hV hs hz
          refine outR_call (by kernel_rfl) (f := 30) ?_ ((C5.out W0 _ ((HR2.out.trans_rb gR (PP34.out.trans (PP45.out.trans (PP56.out)))).ch) (p6.1) (p6.2)).mono fun e w2 ⟨v, he, ho, hr⟩ => ⟨v, he, Ra.mono hr ((PP56.out)), ho, Nat.le_trans (Nat.le_trans hb2 gR.size) (hr _ (List.prefix_refl _)).size⟩)
          simp [go_sem, e6, q11, e11]
        · intro VV W0 AA g hV hs hz
          have gR : Rb base (L6) W2 W0 := ((raDrew base (L6) W2).trans g).rb
          have e01 := hz 1 (.slice (some ⟨b, o, none⟩) z.length c) (by kernel_rfl) rfl
          clear hV hs hz
          refine outR_val (by kernel_rfl) (v := .slice (some ⟨b, o, none⟩) z.length c) (w' := W0) ?_ (Ra.refl _ _ _) rfl
          simp [go_sem, e01]
        · intro VV W0 AA g hV hs hz
          have gR : Rb base (L6) W2 W0 := ((raDrew base (L6) W2).trans g).rb
          have e05 := hz 5 (.int .i64 (k : Int)) (by kernel_rfl) rfl
          clear hV hs hz
          refine outR_val (by kernel_rfl) (v := .int .i64 (k : Int)) (w' := W0) ?_ (Ra.refl _ _ _) rfl
          simp [go_sem, e05]
        · intro VV W0 AA g hV hs hz
          have gR : Rb base (L6) W2 W0 := ((raDrew base (L6) W2).trans g).rb
          have q13 : VV 13 = .slice (some ⟨b, o, none⟩) z.length c := hV 13 (by kernel_rfl)
          have e13 := hs 48 13 (by kernel_rfl) (by kernel_rfl)
          have q14 : VV 14 = .int .i64 (k : Int) := hV 14 (by kernel_rfl)
          have e14 := hs 49 14 (by kernel_rfl) (by kernel_rfl)
          clear hV hs hz
          refine outR_val (by kernel_rfl) (v := .pointer (some ⟨b, o + k * 6, none⟩)) (w' := W0) ?_ (Ra.refl _ _ _) rfl
          simp [go_sem, q13, e13, q14, e14, hkn']
        · intro VV W0 AA g hV hs hz
          have gR : Rb base (L6) W2 W0 := ((raDrew base (L6) W2).trans g).rb
          have q15 : VV 15 = .pointer (some ⟨b, o + k * 6, none⟩) := hV 15 (by kernel_rfl)
          have e15 := hs 50 15 (by kernel_rfl) (by kernel_rfl)
          clear hV hs hz
          refine outR_val (by kernel_rfl) (v := .pointer (some ⟨b, o + k * 6 + 5, none⟩)) (w' := W0) ?_ (Ra.refl _ _ _) rfl
          simp [go_sem, q15, e15]
        · intro VV W0 AA g hV hs hz
          have gR : Rb base (L6) W2 W0 := ((raDrew base (L6) W2).trans g).rb
          have q16 : VV 16 = .pointer (some ⟨b, o + k * 6 + 5, none⟩) := hV 16 (by kernel_rfl)
          have e16 := hs 51 16 (by kernel_rfl) (by kernel_rfl)
          have x0 := (HR2.out.trans_rb gR (PP34.out.trans (PP45.out.trans (PP56.out)))).low c5 hbb
          clear hV hs hz
          refine outR_val (by kernel_rfl) (v := .slice a4 x.b.length k4) (w' := W0) ?_ (Ra.refl _ _ _) rfl
          simp [go_sem, q16, e16, x0]
        · intro VV W0 AA g hV hs hz
          have gR : Rb base (L6) W2 W0 := ((raDrew base (L6) W2).trans g).rb
          have p12 : rowV base (L5) (VV 12) W0 := hV 12 (by kernel_rfl)
          have e12 := hs 47 12 (by kernel_rfl) (by kernel_rfl)
          have q17 : VV 17 = .slice a4 x.b.length k4 := hV 17 (by kernel_rfl)
          have e17 := hs 52 17 (by kernel_rfl) (by kernel_rfl)
          clear hV hs hz
          refine outR_call (by kernel_rfl) (f := 30) ?_ ((C6.out W0 _ ((HR2.out.trans_rb gR (PP34.out.trans (PP45.out.trans (PP56.out)))).ch) (p12.1) (p12.2)).mono fun e w2 ⟨v, he, ho, hr⟩ => ⟨v, he, Ra.mono hr (List.prefix_refl _), ho, Nat.le_trans (Nat.le_trans hb2 gR.size) (hr _ (List.prefix_refl _)).size⟩)
          simp [go_sem, e12, q17, e17]
      · intro VV W0 g hV
        have gA : Ra base (L6) W2 W0 := (raDrew base (L6) W2).trans g
        have h0 : VV 0 = .slice aa18 L3.length cc18 := hV 0 (by decide)
        have h1 : VV 1 = .slice (some ⟨b, o, none⟩) z.length c := hV 1 (by decide)
        have h2 : VV 2 = .int .i64 (k : Int) := hV 2 (by decide)
        have h3 : VV 3 = .pointer (some ⟨b, o + k * 6, none⟩) := hV 3 (by decide)
        have h4 : VV 4 = .pointer (some ⟨b, o + k * 6 + 3, none⟩) := hV 4 (by decide)
        have h5 : VV 5 = .slice a2 x.dst.length k2 := hV 5 (by decide)
        obtain ⟨p6, _⟩ : rowV base (L4) (VV 6) W0 := hV 6 (by decide)
        obtain ⟨aa6, cc6, h6, _⟩ := p6.toB.shape
        rw [h6] at p6
        have h7 : VV 7 = .slice (some ⟨b, o, none⟩) z.length c := hV 7 (by decide)
        have h8 : VV 8 = .int .i64 (k : Int) := hV 8 (by decide)
        have h9 : VV 9 = .pointer (some ⟨b, o + k * 6, none⟩) := hV 9 (by decide)
        have h10 : VV 10 = .pointer (some ⟨b, o + k * 6 + 4, none⟩) := hV 10 (by decide)
        have h11 : VV 11 = .slice a3 x.a.length k3 := hV 11 (by decide)
        obtain ⟨p12, _⟩ : rowV base (L5) (VV 12) W0 := hV 12 (by decide)
        obtain ⟨aa12, cc12, h12, _⟩ := p12.toB.shape
        rw [h12] at p12
        have h13 : VV 13 = .slice (some ⟨b, o, none⟩) z.length c := hV 13 (by decide)
        have h14 : VV 14 = .int .i64 (k : Int) := hV 14 (by decide)
        have h15 : VV 15 = .pointer (some ⟨b, o + k * 6, none⟩) := hV 15 (by decide)
        have h16 : VV 16 = .pointer (some ⟨b, o + k * 6 + 5, none⟩) := hV 16 (by decide)
        have h17 : VV 17 = .slice a4 x.b.length k4 := hV 17 (by decide)
        obtain ⟨p18, _⟩ : rowV base (L6) (VV 18) W0 := hV 18 (by decide)
        obtain ⟨aa18, cc18, h18, _⟩ := p18.toB.shape
        rw [h18] at p18
        simp [frV, dstOf, Act.put, h0, h1, h2, h3, h4, h5, h6, h7, h8, h9, h10, h11, h12, h13, h14, h15, h16, h17, h18]
        clear h0 h1 h2 h3 h4 h5 h6 h7 h8 h9 h10 h11 h12 h13 h14 h15 h16 h17 h18 hV g
        have P6 : Hid (OwnL W0 base (.slice aa6 (L4).length cc6) (L4)) := p6
        have P12 : Hid (OwnL W0 base (.slice aa12 (L5).length cc12) (L5)) := p12
        have P18 : Hid (OwnL W0 base (.slice aa18 (L6).length cc18) (L6)) := p18
        clear p6 p12 p18
        have GA : Hid (Ra base (L6) W2 W0) := gA
        clear gA
        have R6 : Hid (Ra base L6 wr W0) := (HR2.out.mono (PP34.out.trans (PP45.out.trans (PP56.out)))).trans GA.out
        go_wp2_with fail
        go_roundw
        case rel =>
          refine ⟨k + 1, aa18, cc18, ?_, by go_num, by omega, ?_, ?_⟩
          · rw [HS.out, HX.out, TOT.out]
          · rw [HS.out, HX.out, TOT.out]; exact P18.out
          · intro T hT
            rw [HS.out, HX.out, TOT.out] at hT
            exact (HR.out T ((PP01.out.trans (PP12.out.trans (PP23.out.trans (PP34.out.trans (PP45.out.trans (PP56.out)))))).trans hT)).trans (R6.out T hT)
        case measure => simp [intOf]; omega
theorem stmts8_any (z : List Pg.St) : StsB z := stmts_list8 z fun x _ => Pg.St.ind (P := fun x => StsB x.a ∧ StsB x.b) (fun _ _ _ _ a b ia ib => ⟨stmts_list8 a ia, stmts_list8 b ib⟩) x
end Go.Proofs.Ytljdjkiejppenaa
