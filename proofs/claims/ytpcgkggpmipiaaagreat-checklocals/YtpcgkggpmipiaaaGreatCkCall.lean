/- check's method of calls. -/
import Derived.Test.YtpcgkggpmipiaaaGreatG19
namespace Go.Proofs.YtpcgkggpmipiaaaGreat
open Go.RowKit
set_option linter.unusedVariables false
set_option maxRecDepth 100000
set_option maxHeartbeats 8000000
theorem lu_new {P : Program} {ops : Array Oper} {R G : World → World → Prop} {K0 : World → Prop} {u : Nat} {W : World} {Z : List PanicEntry → World → Prop} {F : Act → World → Prop} {L : List Sp} {hs : List (Nat × (World → Prop))} {bad : List Nat} {i : Nat} {o : Oper} {rest : List Oper} {A : Act} {Ψ : Value → World → Prop} (hL : L[i]? = some (.prop Ψ)) (hw : Region.wanted o (yielded ops A.tmps) = true) (hd : dstOf ops i = o.dst ∧ o.dst.isSome = true)
  (hst : ∀ v w w', Ψ v w → Rof G R u i w w' → Ψ v w') (h : ∀ w, R W w → (i = u → K0 w) → ∃ v w', (execOp A.eval o).run P w = .ok (.value v) w' ∧ Rof R G u i w w' ∧ Ψ v w')
  (hr : ∀ v, lul P ops R G K0 u W Z F L ((i, Ψ v) :: hs) bad (i + 1) rest (A.put o.dst v)) : lul P ops R G K0 u W Z F L hs bad i (o :: rest) A := by
 unfold lul
 rw [List.getD_eq_getElem?_getD, hL]
 refine ⟨hst, fun w hk hu hh => ?_, fun v => by rw [hd.1]; exact hr v⟩
 obtain ⟨v, w', h1, h2, h3⟩ := h w hk hu
 unfold lyStep
 rw [if_pos hw, h1]
 exact ⟨by rw [hd.1]; exact hd.2, h2, h3⟩
theorem Ck.locs_all {c : Ck.En} : ∀ {l had : List Int}, Ck.locs c had l = true → ∀ x, x ∈ l → 0 ≤ x ∧ x < (c.f.locals.length : Int)
 | [], _, _, x, hx => by simp at hx
 | y :: l, had, h, x, hx => by
  rw [Ck.locs] at h
  simp only [Bool.and_eq_true] at h
  rcases List.mem_cons.1 hx with rfl | hx
  ·exact Ty.nmB_iff.1 h.1.1
  ·exact Ck.locs_all h.2 x hx
theorem ckCall : CallOk := by
 intro N w SB c A lp nodes deep h hf n a1 m1 k1 a2 k2 a3 m3 k3 a4 m4 k4 M aa ac l dst hd hn hl
 obtain ⟨W1, B4, HW, HG, HF⟩ := ck_openS h.s 10 n a1 m1 k1 a2 dst.length k2 a3 m3 k3 a4 m4 k4
 have HM : Hid (∀ (b : Bool) (e : Int) W, Calls Tryz.prog 42 #[.bool b, .int .i64 e] W fun r w' => r = (bif b then .returned (.tuple #[]) else ckF e) ∧ w' = W) := ckMust_any
 obtain ⟨R, hR⟩ : ∃ R, R = ckE (fun _ => Value.tuple #[]) (Ck.cal c n dst l) := ⟨_, rfl⟩
 have HR : Hid (R = ckE (fun _ => Value.tuple #[]) (Ck.cal c n dst l)) := hR
 show Calls _ _ _ _ fun e w' => e = ckE (fun _ => Value.tuple #[]) (Ck.cal c n dst l) ∧ _
 rw [← hR]
 clear hR
 have hfl := h.f.le
 have hfm := h.f.max
 unfold maxLen at hfm
 have hlx := hl.max
 have hlc := hl.le
 unfold maxLen at hlx
 have hdx := hd.max
 have hdc := hd.le
 unfold maxLen at hdx
 have HLs : Hid (∀ W, W1.grownBy W none → NumIn M W aa l.length ac (fun i => l.getD i 0)) := fun W g => (hl.grow HG.out).grow g
 have HDs : Hid (∀ W, W1.grownBy W none → NumIn N W a2 dst.length k2 (fun i => dst.getD i 0)) := fun W g => ((NumL.numIn hd (fun _ h => h)).grow HG.out).grow g
 have HFs : Hid (∀ W, W1.grownBy W none → FnL (fun b => b < N) W A.fa A.fc c.fs) := fun W g => FnL.grow h.f (grown_trans HG.out g)
 have HFk : Hid (Ck.Fok c) := hf
 clear h hf hl hn hd
 cases hnb : Ty.nmB c.fs.length n
 case false =>
  have HN : Hid (∀ W, W1.grownBy W none → Calls Tryz.prog 160 #[.int .i64 (c.fs.length : Int), .int .i64 n] W fun r w' => r = .returned (.bool false) ∧ W.grownBy w' none) := fun W g => (ckNum64_any _ _ W (by omega)).mono fun r w' ⟨hr, hw⟩ => ⟨by rw [hr, hnb], by rw [hw]; exact World.grownBy.refl _ _⟩
  go_enter Tryz.func196, Tryz.ntmps196
  go_wp2_with fail
  rw [HW.out.1, HW.out.2]
  refine region_lg 8 (World.grownBy.refl _ _) (by kernel_rfl) (by kernel_rfl) (by kernel_rfl) (by kernel_rfl) ?_
  simp only [List.take_succ_cons, List.take_zero]
  repeat (first
   | (refine lx_end fun W0 GR => ?_)
   | (refine lx_no ?_ ?_ ?_; (· simp [Region.wanted]; done); (· kernel_rfl); simp only [Act.put, List.setIfInBounds_toArray, List.set_cons_succ, List.set_cons_zero])
   | (refine lx_val (v := ?_) ?_ ?_ ?_ ?_; rotate_left; (· kernel_rfl); (· exact ⟨by kernel_rfl, rfl⟩); (· intro W g; simp [go_sem, HF.out.kf W g, HF.out.x1 W g]; rfl); simp only [Act.put, List.setIfInBounds_toArray, List.set_cons_succ, List.set_cons_zero])
   | (refine lx_callg HN.out ?_ ?_ ?_ ?_; (· kernel_rfl); (· exact ⟨by kernel_rfl, rfl⟩); (· intro W g; simp [go_sem]; done); simp only [Act.put, List.setIfInBounds_toArray, List.set_cons_succ, List.set_cons_zero]))
  simp only [List.drop_succ_cons, List.drop_zero]
  go_wp2_with (go_at_call 42; refine (HM.out _ _ _).mono ?_; rintro e w3 ⟨rfl, hw3⟩; rw [hw3]; clear hw3 w3; simp only [cond_false])
  exact ⟨rfl, by rw [HR.out]; simp [Ck.cal, Ck.must, ckE, bind, Except.bind, hnb], grown_trans HG.out GR⟩
 case true =>
  obtain ⟨j, rfl, hj⟩ := ent_nat (Ty.nmB_iff.1 hnb)
  have hj' : (j : Int) < c.fs.length := by omega
  have HN : Hid (∀ W, W1.grownBy W none → Calls Tryz.prog 160 #[.int .i64 (c.fs.length : Int), .int .i64 (j : Int)] W fun r w' => r = .returned (.bool true) ∧ W.grownBy w' none) := fun W g => (ckNum64_any _ _ W (by omega)).mono fun r w' ⟨hr, hw⟩ => ⟨by rw [hr, hnb], by rw [hw]; exact World.grownBy.refl _ _⟩
  obtain ⟨fb, fo, hfa, _, hfx⟩ := (HFs.out W1 (World.grownBy.refl _ _)).at hj
  obtain ⟨b1, b2, b3, j1, j2, j3, he⟩ := hfx
  obtain ⟨g, hg⟩ : ∃ g, g = c.fs[j] := ⟨_, rfl⟩
  rw [← hg] at he
  obtain ⟨hp0, hp1⟩ := HFk.out g (by rw [hg]; exact List.getElem_mem hj)
  have hgd : c.fs.getD j ⟨0, [], [], []⟩ = g := by rw [hg, List.getD_eq_getElem?_getD, List.getElem?_eq_getElem hj]; rfl
  obtain ⟨pn, hpn, _⟩ := ent_nat (k := g.locals.length + 1) (x := g.params) ⟨hp0, by omega⟩
  have hpl : pn ≤ g.locals.length := by omega
  have HC : Hid (∀ W, W1.grownBy W none → W.cell? ⟨fb, fo + j * 4, none⟩ = some (.int .i64 pn) ∧ W.cell? ⟨fb, fo + j * 4 + 1, none⟩ = some (.slice b1 g.locals.length j1) ∧ W.cell? ⟨fb, fo + j * 4 + 2, none⟩ = some (.slice b2 g.results.length j2) ∧ W.cell? ⟨fb, fo + j * 4 + 3, none⟩ = some (.slice b3 g.body.length j3)) := fun W gg => ⟨by rw [← hpn]; exact gg.cell he.c0 (by simp), gg.cell he.c1 (by simp), gg.cell he.c2 (by simp), gg.cell he.c3 (by simp)⟩
  have HKf : Hid (∀ W, W1.grownBy W none → W.cell? ⟨SB, 2, none⟩ = some (.slice (some ⟨fb, fo, none⟩) c.fs.length A.fc)) := fun W gg => by rw [← hfa]; exact HF.out.kf W gg
  have HGl : Hid (∀ W, W1.grownBy W none → NumIn N W b1 g.locals.length j1 (fun i => g.locals.getD i 0)) := fun W gg => (NumL.numIn he.l (fun _ h => h)).grow gg
  have HGr : Hid (∀ W, W1.grownBy W none → NumIn N W b2 g.results.length j2 (fun i => g.results.getD i 0)) := fun W gg => (NumL.numIn he.r (fun _ h => h)).grow gg
  have hjl := he.l.le
  have hjm := he.l.max
  have hrl := he.r.le
  have hrm := he.r.max
  unfold maxLen at hjm hrm
  have HCal : Hid (Ck.cal c (j : Int) dst l = (do Ck.must ((l.length : Int) == (pn : Int) && dst.length == g.results.length) 94; Ck.must (l == g.locals.take pn) 93; Ck.must (Ck.locs c [] dst) 92; Ck.must (dst.map (fun x => c.f.locals.getD x.toNat 0) == g.results) 93)) := by
   show _ = _
   unfold Ck.cal
   rw [hnb]
   simp only [Int.toNat_natCast, hgd, hpn]
   rfl
  have HPn : Hid (g.params = pn) := hpn
  clear he hg hgd hfa hpn hp0 hp1
  have hlt : (g.locals.take pn).length = pn := by rw [List.length_take]; omega
  obtain ⟨ze, hz_ze⟩ : ∃ z : Bool, z = (l == g.locals.take pn) := ⟨_, rfl⟩
  have HZe : Hid ((l == g.locals.take pn) = ze) := hz_ze.symm
  have HE : Hid (∀ W, W1.grownBy W none → Calls Tryz.prog 168 #[.slice aa l.length ac, .slice b1 pn j1] W fun r w' => r = .returned (.bool ze) ∧ W.grownBy w' none) := fun W gg => by
   have h9 := ckEqual_any (m := g.locals.take pn) (HLs.out W gg) (b := b1) (bc := j1) (M := N) (by
    rw [hlt]
    have h8 := HGl.out W gg
    exact ⟨by omega, h8.max, by
     rcases h8.lie with h0 | ⟨b, o, e1, e2, e3⟩
     ·exact .inl (by omega)
     ·exact .inr ⟨b, o, e1, e2, fun i hi => by rw [e3 i (by omega)]; simp [List.getD_eq_getElem?_getD, hi]⟩⟩)
   rw [hlt] at h9
   rw [hz_ze]
   exact h9
  clear hz_ze hlt
  obtain ⟨zl, hz_zl⟩ : ∃ z : Bool, z = Ck.locs c [] dst := ⟨_, rfl⟩
  have HZl : Hid (Ck.locs c [] dst = zl) := hz_zl.symm
  have HAl : Hid (∀ W, W1.grownBy W none → Calls Tryz.prog 218 #[.pointer (some ⟨SB, 0, none⟩), .slice a2 dst.length k2] W fun r w' => r = .returned (.bool zl) ∧ W.grownBy w' none) := fun W gg => by rw [hz_zl]; exact ckAreLocals (HF.out.sc W gg) (HDs.out W gg)
  clear hz_zl
  rcases Bool.eq_false_or_eq_true ((l.length : Int) == (pn : Int)) with z4a | z4a
  case inr =>
   have z4 : ((l.length : Int) == (pn : Int) && dst.length == g.results.length) = false := by rw [z4a]; rfl
   go_enter Tryz.func196, Tryz.ntmps196
   go_wp2_with fail
   rw [HW.out.1, HW.out.2]
   refine region_lg 8 (World.grownBy.refl _ _) (by kernel_rfl) (by kernel_rfl) (by kernel_rfl) (by kernel_rfl) ?_
   simp only [List.take_succ_cons, List.take_zero]
   repeat (first
    | (refine lx_end fun W0 GR => ?_)
    | (refine lx_no ?_ ?_ ?_; (· simp [Region.wanted]; done); (· kernel_rfl); simp only [Act.put, List.setIfInBounds_toArray, List.set_cons_succ, List.set_cons_zero])
    | (refine lx_val (v := ?_) ?_ ?_ ?_ ?_; rotate_left; (· kernel_rfl); (· exact ⟨by kernel_rfl, rfl⟩); (· intro W g; simp [go_sem, HKf.out W g, HF.out.x1 W g]; rfl); simp only [Act.put, List.setIfInBounds_toArray, List.set_cons_succ, List.set_cons_zero])
    | (refine lx_callg HN.out ?_ ?_ ?_ ?_; (· kernel_rfl); (· exact ⟨by kernel_rfl, rfl⟩); (· intro W g; simp [go_sem]; done); simp only [Act.put, List.setIfInBounds_toArray, List.set_cons_succ, List.set_cons_zero]))
   simp only [List.drop_succ_cons, List.drop_zero]
   go_wp2_with (go_at_call 42; refine (HM.out _ _ _).mono ?_; rintro e w3 ⟨rfl, hw3⟩; rw [hw3]; clear hw3 w3; simp only [cond_true])
   refine region_lu (fun w w' => w.grownBy w' none) (fun w w' => w' = w) (fun W => W = W0.drew) 8 (fun h1 h2 => grown_trans h1 h2) (fun w => rfl) (fun h => by rw [h]; exact World.grownBy.refl _ _) (fun g h => g.trans h) 9 [.val (.pointer (some ⟨SB, 0, none⟩)), .val (.pointer (some ⟨SB, 0, none⟩)), .val (.pointer (some ⟨SB, 2, none⟩)), .val (.slice (some ⟨fb, fo, none⟩) c.fs.length A.fc), .val (.pointer (some ⟨B4, 1, none⟩)), .val (.int .i64 (j : Int)), .val (.pointer (some ⟨fb, fo + j * 4, none⟩)), .val (.agg #[.int .i64 pn, .slice b1 g.locals.length j1, .slice b2 g.results.length j2, .slice b3 g.body.length j3]), .prop (fun v w9 => v = .pointer (some ⟨W0.heap.size, 0, none⟩) ∧ Bk w9 W0.heap.size 53 [.int .i64 0, .slice none 0 0, .slice none 0 0, .slice none 0 0] ∧ W1.grownBy w9 none)] rfl (by kernel_rfl) (by kernel_rfl) (by kernel_rfl) (by kernel_rfl) rfl ?_
   simp only [List.take_succ_cons, List.take_zero]
   repeat (refine lu_val (x := _) rfl ?_ ?_ (fun w => rfl) (fun h => by rw [h]; exact World.grownBy.refl _ _) ?_ ?_; (· kernel_rfl); (· exact ⟨by kernel_rfl, rfl⟩); (· intro W gg; have g9 : W1.grownBy W none := grown_trans (grown_drew GR) gg; simp [go_sem, HKf.out W g9, HF.out.x1 W g9, (HC.out W g9).1, (HC.out W g9).2.1, (HC.out W g9).2.2.1, (HC.out W g9).2.2.2, hj']; done); simp only [Act.put, List.setIfInBounds_toArray, List.set_cons_succ, List.set_cons_zero])
   refine lu_new rfl (by kernel_rfl) ⟨by kernel_rfl, rfl⟩ ?_ ?_ ?_
   ·intro v W W9 h9 hg9
    rw [show Rof (fun w w' : World => w' = w) (fun w w' => w.grownBy w' none) 8 (0 + 1 + 1 + 1 + 1 + 1 + 1 + 1 + 1) = (fun w w' : World => w' = w) from rfl] at hg9
    rw [hg9]; exact h9
   ·intro W gg hu
    obtain rfl := hu rfl
    refine ⟨_, W0.drew.alloc (.cells #[.int .i64 0, .slice none 0 0, .slice none 0 0, .slice none 0 0] 53), by simp [go_sem]; rfl, ?_, ?_⟩
    ·rw [show Rof (fun w w' => w.grownBy w' none) (fun w w' : World => w' = w) 8 (0 + 1 + 1 + 1 + 1 + 1 + 1 + 1 + 1) = (fun w w' : World => w.grownBy w' none) from rfl]
     exact World.grownBy_alloc _ _ _
    ·exact ⟨rfl, Bk.new _ _ _, grown_trans (grown_drew GR) (World.grownBy_alloc _ _ _)⟩
   intro v
   simp only [Act.put, List.setIfInBounds_toArray, List.set_cons_succ, List.set_cons_zero]
   refine lu_end fun W8 g8 hh => ?_
   obtain ⟨hv, hk8, hg8⟩ := hh (8, fun w9 => v = .pointer (some ⟨W0.heap.size, 0, none⟩) ∧ Bk w9 W0.heap.size 53 [.int .i64 0, .slice none 0 0, .slice none 0 0, .slice none 0 0] ∧ W1.grownBy w9 none) (by simp)
   subst hv
   obtain ⟨B6, hB6⟩ : ∃ B, B = W0.heap.size := ⟨_, rfl⟩
   rw [← hB6] at hk8 ⊢
   have hB6s : W1.heap.size ≤ B6 := by rw [hB6]; exact GR.size
   clear hh hB6
   have f0 := hk8.frozen 0
   have f1 := hk8.frozen 1
   have f2 := hk8.frozen 2
   have f3 := hk8.frozen 3
   have q0 := hk8.cell (i := 0) rfl
   have q1 := hk8.cell (i := 1) rfl
   have q2 := hk8.cell (i := 2) rfl
   have q3 := hk8.cell (i := 3) rfl
   have hk9 := (((hk8.set 0 (.int .i64 pn)).set 1 (.slice b1 g.locals.length j1)).set 2 (.slice b2 g.results.length j2)).set 3 (.slice b3 g.body.length j3)
   have hg9 : W1.grownBy ((((W8.setCell ⟨B6, 0, none⟩ (.int .i64 pn)).setCell ⟨B6, 1, none⟩ (.slice b1 g.locals.length j1)).setCell ⟨B6, 2, none⟩ (.slice b2 g.results.length j2)).setCell ⟨B6, 3, none⟩ (.slice b3 g.body.length j3)) none := (((((Ch.of (l := [B6]) hg8).trans (Ch.one (grown_set _ _ _ _) (by simp))).trans (Ch.one (grown_set _ _ _ _) (by simp))).trans (Ch.one (grown_set _ _ _ _) (by simp))).trans (Ch.one (grown_set _ _ _ _) (by simp))).nil (by simp; omega)
   have r0 := hk9.cell (i := 0) rfl
   have r1 := hk9.cell (i := 1) rfl
   have r2 := hk9.cell (i := 2) rfl
   have x3 := HF.out.x3 _ hg9
   have HG9 : Hid (W1.grownBy ((((W8.setCell ⟨B6, 0, none⟩ (.int .i64 pn)).setCell ⟨B6, 1, none⟩ (.slice b1 g.locals.length j1)).setCell ⟨B6, 2, none⟩ (.slice b2 g.results.length j2)).setCell ⟨B6, 3, none⟩ (.slice b3 g.body.length j3)) none) := hg9
   have HK9 : Hid (Bk ((((W8.setCell ⟨B6, 0, none⟩ (.int .i64 pn)).setCell ⟨B6, 1, none⟩ (.slice b1 g.locals.length j1)).setCell ⟨B6, 2, none⟩ (.slice b2 g.results.length j2)).setCell ⟨B6, 3, none⟩ (.slice b3 g.body.length j3)) B6 53 [.int .i64 pn, .slice b1 g.locals.length j1, .slice b2 g.results.length j2, .slice b3 g.body.length j3]) := hk9
   clear hk8 hk9 hg8 hg9
   simp only [List.drop_succ_cons, List.drop_zero]
   go_wp2_with (go_at_call 42; refine (HM.out _ _ _).mono ?_; rintro e w3 ⟨rfl, hw3⟩; rw [hw3]; clear hw3 w3; simp only [cond_false])
   exact ⟨rfl, by rw [HR.out, HCal.out, z4]; rfl, grown_trans HG.out HG9.out⟩
  rcases Bool.eq_false_or_eq_true ((dst.length : Int) == (g.results.length : Int)) with z4b | z4b
  case inr =>
   have z4 : ((l.length : Int) == (pn : Int) && dst.length == g.results.length) = false := by rw [z4a, Bool.true_and]; simp at z4b ⊢; omega
   go_enter Tryz.func196, Tryz.ntmps196
   go_wp2_with fail
   rw [HW.out.1, HW.out.2]
   refine region_lg 8 (World.grownBy.refl _ _) (by kernel_rfl) (by kernel_rfl) (by kernel_rfl) (by kernel_rfl) ?_
   simp only [List.take_succ_cons, List.take_zero]
   repeat (first
    | (refine lx_end fun W0 GR => ?_)
    | (refine lx_no ?_ ?_ ?_; (· simp [Region.wanted]; done); (· kernel_rfl); simp only [Act.put, List.setIfInBounds_toArray, List.set_cons_succ, List.set_cons_zero])
    | (refine lx_val (v := ?_) ?_ ?_ ?_ ?_; rotate_left; (· kernel_rfl); (· exact ⟨by kernel_rfl, rfl⟩); (· intro W g; simp [go_sem, HKf.out W g, HF.out.x1 W g]; rfl); simp only [Act.put, List.setIfInBounds_toArray, List.set_cons_succ, List.set_cons_zero])
    | (refine lx_callg HN.out ?_ ?_ ?_ ?_; (· kernel_rfl); (· exact ⟨by kernel_rfl, rfl⟩); (· intro W g; simp [go_sem]; done); simp only [Act.put, List.setIfInBounds_toArray, List.set_cons_succ, List.set_cons_zero]))
   simp only [List.drop_succ_cons, List.drop_zero]
   go_wp2_with (go_at_call 42; refine (HM.out _ _ _).mono ?_; rintro e w3 ⟨rfl, hw3⟩; rw [hw3]; clear hw3 w3; simp only [cond_true])
   refine region_lu (fun w w' => w.grownBy w' none) (fun w w' => w' = w) (fun W => W = W0.drew) 8 (fun h1 h2 => grown_trans h1 h2) (fun w => rfl) (fun h => by rw [h]; exact World.grownBy.refl _ _) (fun g h => g.trans h) 9 [.val (.pointer (some ⟨SB, 0, none⟩)), .val (.pointer (some ⟨SB, 0, none⟩)), .val (.pointer (some ⟨SB, 2, none⟩)), .val (.slice (some ⟨fb, fo, none⟩) c.fs.length A.fc), .val (.pointer (some ⟨B4, 1, none⟩)), .val (.int .i64 (j : Int)), .val (.pointer (some ⟨fb, fo + j * 4, none⟩)), .val (.agg #[.int .i64 pn, .slice b1 g.locals.length j1, .slice b2 g.results.length j2, .slice b3 g.body.length j3]), .prop (fun v w9 => v = .pointer (some ⟨W0.heap.size, 0, none⟩) ∧ Bk w9 W0.heap.size 53 [.int .i64 0, .slice none 0 0, .slice none 0 0, .slice none 0 0] ∧ W1.grownBy w9 none)] rfl (by kernel_rfl) (by kernel_rfl) (by kernel_rfl) (by kernel_rfl) rfl ?_
   simp only [List.take_succ_cons, List.take_zero]
   repeat (refine lu_val (x := _) rfl ?_ ?_ (fun w => rfl) (fun h => by rw [h]; exact World.grownBy.refl _ _) ?_ ?_; (· kernel_rfl); (· exact ⟨by kernel_rfl, rfl⟩); (· intro W gg; have g9 : W1.grownBy W none := grown_trans (grown_drew GR) gg; simp [go_sem, HKf.out W g9, HF.out.x1 W g9, (HC.out W g9).1, (HC.out W g9).2.1, (HC.out W g9).2.2.1, (HC.out W g9).2.2.2, hj']; done); simp only [Act.put, List.setIfInBounds_toArray, List.set_cons_succ, List.set_cons_zero])
   refine lu_new rfl (by kernel_rfl) ⟨by kernel_rfl, rfl⟩ ?_ ?_ ?_
   ·intro v W W9 h9 hg9
    rw [show Rof (fun w w' : World => w' = w) (fun w w' => w.grownBy w' none) 8 (0 + 1 + 1 + 1 + 1 + 1 + 1 + 1 + 1) = (fun w w' : World => w' = w) from rfl] at hg9
    rw [hg9]; exact h9
   ·intro W gg hu
    obtain rfl := hu rfl
    refine ⟨_, W0.drew.alloc (.cells #[.int .i64 0, .slice none 0 0, .slice none 0 0, .slice none 0 0] 53), by simp [go_sem]; rfl, ?_, ?_⟩
    ·rw [show Rof (fun w w' => w.grownBy w' none) (fun w w' : World => w' = w) 8 (0 + 1 + 1 + 1 + 1 + 1 + 1 + 1 + 1) = (fun w w' : World => w.grownBy w' none) from rfl]
     exact World.grownBy_alloc _ _ _
    ·exact ⟨rfl, Bk.new _ _ _, grown_trans (grown_drew GR) (World.grownBy_alloc _ _ _)⟩
   intro v
   simp only [Act.put, List.setIfInBounds_toArray, List.set_cons_succ, List.set_cons_zero]
   refine lu_end fun W8 g8 hh => ?_
   obtain ⟨hv, hk8, hg8⟩ := hh (8, fun w9 => v = .pointer (some ⟨W0.heap.size, 0, none⟩) ∧ Bk w9 W0.heap.size 53 [.int .i64 0, .slice none 0 0, .slice none 0 0, .slice none 0 0] ∧ W1.grownBy w9 none) (by simp)
   subst hv
   obtain ⟨B6, hB6⟩ : ∃ B, B = W0.heap.size := ⟨_, rfl⟩
   rw [← hB6] at hk8 ⊢
   have hB6s : W1.heap.size ≤ B6 := by rw [hB6]; exact GR.size
   clear hh hB6
   have f0 := hk8.frozen 0
   have f1 := hk8.frozen 1
   have f2 := hk8.frozen 2
   have f3 := hk8.frozen 3
   have q0 := hk8.cell (i := 0) rfl
   have q1 := hk8.cell (i := 1) rfl
   have q2 := hk8.cell (i := 2) rfl
   have q3 := hk8.cell (i := 3) rfl
   have hk9 := (((hk8.set 0 (.int .i64 pn)).set 1 (.slice b1 g.locals.length j1)).set 2 (.slice b2 g.results.length j2)).set 3 (.slice b3 g.body.length j3)
   have hg9 : W1.grownBy ((((W8.setCell ⟨B6, 0, none⟩ (.int .i64 pn)).setCell ⟨B6, 1, none⟩ (.slice b1 g.locals.length j1)).setCell ⟨B6, 2, none⟩ (.slice b2 g.results.length j2)).setCell ⟨B6, 3, none⟩ (.slice b3 g.body.length j3)) none := (((((Ch.of (l := [B6]) hg8).trans (Ch.one (grown_set _ _ _ _) (by simp))).trans (Ch.one (grown_set _ _ _ _) (by simp))).trans (Ch.one (grown_set _ _ _ _) (by simp))).trans (Ch.one (grown_set _ _ _ _) (by simp))).nil (by simp; omega)
   have r0 := hk9.cell (i := 0) rfl
   have r1 := hk9.cell (i := 1) rfl
   have r2 := hk9.cell (i := 2) rfl
   have x3 := HF.out.x3 _ hg9
   have HG9 : Hid (W1.grownBy ((((W8.setCell ⟨B6, 0, none⟩ (.int .i64 pn)).setCell ⟨B6, 1, none⟩ (.slice b1 g.locals.length j1)).setCell ⟨B6, 2, none⟩ (.slice b2 g.results.length j2)).setCell ⟨B6, 3, none⟩ (.slice b3 g.body.length j3)) none) := hg9
   have HK9 : Hid (Bk ((((W8.setCell ⟨B6, 0, none⟩ (.int .i64 pn)).setCell ⟨B6, 1, none⟩ (.slice b1 g.locals.length j1)).setCell ⟨B6, 2, none⟩ (.slice b2 g.results.length j2)).setCell ⟨B6, 3, none⟩ (.slice b3 g.body.length j3)) B6 53 [.int .i64 pn, .slice b1 g.locals.length j1, .slice b2 g.results.length j2, .slice b3 g.body.length j3]) := hk9
   clear hk8 hk9 hg8 hg9
   simp only [List.drop_succ_cons, List.drop_zero]
   go_wp2_with (go_at_call 42; refine (HM.out _ _ _).mono ?_; rintro e w3 ⟨rfl, hw3⟩; rw [hw3]; clear hw3 w3; simp only [cond_false])
   exact ⟨rfl, by rw [HR.out, HCal.out, z4]; rfl, grown_trans HG.out HG9.out⟩
  have z4 : ((l.length : Int) == (pn : Int) && dst.length == g.results.length) = true := by rw [z4a, Bool.true_and]; simp at z4b ⊢; omega
  have HZ4 : Hid (((l.length : Int) == (pn : Int) && dst.length == g.results.length) = true) := z4
  have HDr : Hid (dst.length = g.results.length) := by show _ = _; simp at z4b; omega
  clear z4
  cases ze
  case false =>
   go_enter Tryz.func196, Tryz.ntmps196
   go_wp2_with fail
   rw [HW.out.1, HW.out.2]
   refine region_lg 8 (World.grownBy.refl _ _) (by kernel_rfl) (by kernel_rfl) (by kernel_rfl) (by kernel_rfl) ?_
   simp only [List.take_succ_cons, List.take_zero]
   repeat (first
    | (refine lx_end fun W0 GR => ?_)
    | (refine lx_no ?_ ?_ ?_; (· simp [Region.wanted]; done); (· kernel_rfl); simp only [Act.put, List.setIfInBounds_toArray, List.set_cons_succ, List.set_cons_zero])
    | (refine lx_val (v := ?_) ?_ ?_ ?_ ?_; rotate_left; (· kernel_rfl); (· exact ⟨by kernel_rfl, rfl⟩); (· intro W g; simp [go_sem, HKf.out W g, HF.out.x1 W g]; rfl); simp only [Act.put, List.setIfInBounds_toArray, List.set_cons_succ, List.set_cons_zero])
    | (refine lx_callg HN.out ?_ ?_ ?_ ?_; (· kernel_rfl); (· exact ⟨by kernel_rfl, rfl⟩); (· intro W g; simp [go_sem]; done); simp only [Act.put, List.setIfInBounds_toArray, List.set_cons_succ, List.set_cons_zero]))
   simp only [List.drop_succ_cons, List.drop_zero]
   go_wp2_with (go_at_call 42; refine (HM.out _ _ _).mono ?_; rintro e w3 ⟨rfl, hw3⟩; rw [hw3]; clear hw3 w3; simp only [cond_true])
   refine region_lu (fun w w' => w.grownBy w' none) (fun w w' => w' = w) (fun W => W = W0.drew) 8 (fun h1 h2 => grown_trans h1 h2) (fun w => rfl) (fun h => by rw [h]; exact World.grownBy.refl _ _) (fun g h => g.trans h) 9 [.val (.pointer (some ⟨SB, 0, none⟩)), .val (.pointer (some ⟨SB, 0, none⟩)), .val (.pointer (some ⟨SB, 2, none⟩)), .val (.slice (some ⟨fb, fo, none⟩) c.fs.length A.fc), .val (.pointer (some ⟨B4, 1, none⟩)), .val (.int .i64 (j : Int)), .val (.pointer (some ⟨fb, fo + j * 4, none⟩)), .val (.agg #[.int .i64 pn, .slice b1 g.locals.length j1, .slice b2 g.results.length j2, .slice b3 g.body.length j3]), .prop (fun v w9 => v = .pointer (some ⟨W0.heap.size, 0, none⟩) ∧ Bk w9 W0.heap.size 53 [.int .i64 0, .slice none 0 0, .slice none 0 0, .slice none 0 0] ∧ W1.grownBy w9 none)] rfl (by kernel_rfl) (by kernel_rfl) (by kernel_rfl) (by kernel_rfl) rfl ?_
   simp only [List.take_succ_cons, List.take_zero]
   repeat (refine lu_val (x := _) rfl ?_ ?_ (fun w => rfl) (fun h => by rw [h]; exact World.grownBy.refl _ _) ?_ ?_; (· kernel_rfl); (· exact ⟨by kernel_rfl, rfl⟩); (· intro W gg; have g9 : W1.grownBy W none := grown_trans (grown_drew GR) gg; simp [go_sem, HKf.out W g9, HF.out.x1 W g9, (HC.out W g9).1, (HC.out W g9).2.1, (HC.out W g9).2.2.1, (HC.out W g9).2.2.2, hj']; done); simp only [Act.put, List.setIfInBounds_toArray, List.set_cons_succ, List.set_cons_zero])
   refine lu_new rfl (by kernel_rfl) ⟨by kernel_rfl, rfl⟩ ?_ ?_ ?_
   ·intro v W W9 h9 hg9
    rw [show Rof (fun w w' : World => w' = w) (fun w w' => w.grownBy w' none) 8 (0 + 1 + 1 + 1 + 1 + 1 + 1 + 1 + 1) = (fun w w' : World => w' = w) from rfl] at hg9
    rw [hg9]; exact h9
   ·intro W gg hu
    obtain rfl := hu rfl
    refine ⟨_, W0.drew.alloc (.cells #[.int .i64 0, .slice none 0 0, .slice none 0 0, .slice none 0 0] 53), by simp [go_sem]; rfl, ?_, ?_⟩
    ·rw [show Rof (fun w w' => w.grownBy w' none) (fun w w' : World => w' = w) 8 (0 + 1 + 1 + 1 + 1 + 1 + 1 + 1 + 1) = (fun w w' : World => w.grownBy w' none) from rfl]
     exact World.grownBy_alloc _ _ _
    ·exact ⟨rfl, Bk.new _ _ _, grown_trans (grown_drew GR) (World.grownBy_alloc _ _ _)⟩
   intro v
   simp only [Act.put, List.setIfInBounds_toArray, List.set_cons_succ, List.set_cons_zero]
   refine lu_end fun W8 g8 hh => ?_
   obtain ⟨hv, hk8, hg8⟩ := hh (8, fun w9 => v = .pointer (some ⟨W0.heap.size, 0, none⟩) ∧ Bk w9 W0.heap.size 53 [.int .i64 0, .slice none 0 0, .slice none 0 0, .slice none 0 0] ∧ W1.grownBy w9 none) (by simp)
   subst hv
   obtain ⟨B6, hB6⟩ : ∃ B, B = W0.heap.size := ⟨_, rfl⟩
   rw [← hB6] at hk8 ⊢
   have hB6s : W1.heap.size ≤ B6 := by rw [hB6]; exact GR.size
   clear hh hB6
   have f0 := hk8.frozen 0
   have f1 := hk8.frozen 1
   have f2 := hk8.frozen 2
   have f3 := hk8.frozen 3
   have q0 := hk8.cell (i := 0) rfl
   have q1 := hk8.cell (i := 1) rfl
   have q2 := hk8.cell (i := 2) rfl
   have q3 := hk8.cell (i := 3) rfl
   have hk9 := (((hk8.set 0 (.int .i64 pn)).set 1 (.slice b1 g.locals.length j1)).set 2 (.slice b2 g.results.length j2)).set 3 (.slice b3 g.body.length j3)
   have hg9 : W1.grownBy ((((W8.setCell ⟨B6, 0, none⟩ (.int .i64 pn)).setCell ⟨B6, 1, none⟩ (.slice b1 g.locals.length j1)).setCell ⟨B6, 2, none⟩ (.slice b2 g.results.length j2)).setCell ⟨B6, 3, none⟩ (.slice b3 g.body.length j3)) none := (((((Ch.of (l := [B6]) hg8).trans (Ch.one (grown_set _ _ _ _) (by simp))).trans (Ch.one (grown_set _ _ _ _) (by simp))).trans (Ch.one (grown_set _ _ _ _) (by simp))).trans (Ch.one (grown_set _ _ _ _) (by simp))).nil (by simp; omega)
   have r0 := hk9.cell (i := 0) rfl
   have r1 := hk9.cell (i := 1) rfl
   have r2 := hk9.cell (i := 2) rfl
   have x3 := HF.out.x3 _ hg9
   have HG9 : Hid (W1.grownBy ((((W8.setCell ⟨B6, 0, none⟩ (.int .i64 pn)).setCell ⟨B6, 1, none⟩ (.slice b1 g.locals.length j1)).setCell ⟨B6, 2, none⟩ (.slice b2 g.results.length j2)).setCell ⟨B6, 3, none⟩ (.slice b3 g.body.length j3)) none) := hg9
   have HK9 : Hid (Bk ((((W8.setCell ⟨B6, 0, none⟩ (.int .i64 pn)).setCell ⟨B6, 1, none⟩ (.slice b1 g.locals.length j1)).setCell ⟨B6, 2, none⟩ (.slice b2 g.results.length j2)).setCell ⟨B6, 3, none⟩ (.slice b3 g.body.length j3)) B6 53 [.int .i64 pn, .slice b1 g.locals.length j1, .slice b2 g.results.length j2, .slice b3 g.body.length j3]) := hk9
   clear hk8 hk9 hg8 hg9
   simp only [List.drop_succ_cons, List.drop_zero]
   go_wp2_with (first | (go_at_call 42; refine (HM.out _ _ _).mono ?_; rintro e w3 ⟨rfl, hw3⟩; rw [hw3]; clear hw3 w3; simp only [cond_true, cond_false]) | (go_at_call 168; refine (HE.out _ HG9.out).mono ?_; rintro e w7 ⟨rfl, hg7⟩; have HG7 : Hid (W1.grownBy w7 none) := grown_trans HG9.out hg7; have HK7 : Hid (Bk w7 B6 53 [.int .i64 pn, .slice b1 g.locals.length j1, .slice b2 g.results.length j2, .slice b3 g.body.length j3]) := HK9.out.grow hg7; have x37 := HF.out.x3 w7 HG7.out; clear hg7 HE) | (go_at_call 218; refine (HAl.out _ HG7.out).mono ?_; rintro e w10 ⟨rfl, hg10⟩; have HG10 : Hid (W1.grownBy w10 none) := grown_trans HG7.out hg10; have HK10 : Hid (Bk w10 B6 53 [.int .i64 pn, .slice b1 g.locals.length j1, .slice b2 g.results.length j2, .slice b3 g.body.length j3]) := HK7.out.grow hg10; have x310 := HF.out.x3 w10 HG10.out; clear hg10 HAl))
   exact ⟨rfl, by rw [HR.out, HCal.out, HZ4.out]; simp [Ck.must, ckE, bind, Except.bind, HZe.out], grown_trans HG.out HG7.out⟩
  cases zl
  case false =>
   go_enter Tryz.func196, Tryz.ntmps196
   go_wp2_with fail
   rw [HW.out.1, HW.out.2]
   refine region_lg 8 (World.grownBy.refl _ _) (by kernel_rfl) (by kernel_rfl) (by kernel_rfl) (by kernel_rfl) ?_
   simp only [List.take_succ_cons, List.take_zero]
   repeat (first
    | (refine lx_end fun W0 GR => ?_)
    | (refine lx_no ?_ ?_ ?_; (· simp [Region.wanted]; done); (· kernel_rfl); simp only [Act.put, List.setIfInBounds_toArray, List.set_cons_succ, List.set_cons_zero])
    | (refine lx_val (v := ?_) ?_ ?_ ?_ ?_; rotate_left; (· kernel_rfl); (· exact ⟨by kernel_rfl, rfl⟩); (· intro W g; simp [go_sem, HKf.out W g, HF.out.x1 W g]; rfl); simp only [Act.put, List.setIfInBounds_toArray, List.set_cons_succ, List.set_cons_zero])
    | (refine lx_callg HN.out ?_ ?_ ?_ ?_; (· kernel_rfl); (· exact ⟨by kernel_rfl, rfl⟩); (· intro W g; simp [go_sem]; done); simp only [Act.put, List.setIfInBounds_toArray, List.set_cons_succ, List.set_cons_zero]))
   simp only [List.drop_succ_cons, List.drop_zero]
   go_wp2_with (go_at_call 42; refine (HM.out _ _ _).mono ?_; rintro e w3 ⟨rfl, hw3⟩; rw [hw3]; clear hw3 w3; simp only [cond_true])
   refine region_lu (fun w w' => w.grownBy w' none) (fun w w' => w' = w) (fun W => W = W0.drew) 8 (fun h1 h2 => grown_trans h1 h2) (fun w => rfl) (fun h => by rw [h]; exact World.grownBy.refl _ _) (fun g h => g.trans h) 9 [.val (.pointer (some ⟨SB, 0, none⟩)), .val (.pointer (some ⟨SB, 0, none⟩)), .val (.pointer (some ⟨SB, 2, none⟩)), .val (.slice (some ⟨fb, fo, none⟩) c.fs.length A.fc), .val (.pointer (some ⟨B4, 1, none⟩)), .val (.int .i64 (j : Int)), .val (.pointer (some ⟨fb, fo + j * 4, none⟩)), .val (.agg #[.int .i64 pn, .slice b1 g.locals.length j1, .slice b2 g.results.length j2, .slice b3 g.body.length j3]), .prop (fun v w9 => v = .pointer (some ⟨W0.heap.size, 0, none⟩) ∧ Bk w9 W0.heap.size 53 [.int .i64 0, .slice none 0 0, .slice none 0 0, .slice none 0 0] ∧ W1.grownBy w9 none)] rfl (by kernel_rfl) (by kernel_rfl) (by kernel_rfl) (by kernel_rfl) rfl ?_
   simp only [List.take_succ_cons, List.take_zero]
   repeat (refine lu_val (x := _) rfl ?_ ?_ (fun w => rfl) (fun h => by rw [h]; exact World.grownBy.refl _ _) ?_ ?_; (· kernel_rfl); (· exact ⟨by kernel_rfl, rfl⟩); (· intro W gg; have g9 : W1.grownBy W none := grown_trans (grown_drew GR) gg; simp [go_sem, HKf.out W g9, HF.out.x1 W g9, (HC.out W g9).1, (HC.out W g9).2.1, (HC.out W g9).2.2.1, (HC.out W g9).2.2.2, hj']; done); simp only [Act.put, List.setIfInBounds_toArray, List.set_cons_succ, List.set_cons_zero])
   refine lu_new rfl (by kernel_rfl) ⟨by kernel_rfl, rfl⟩ ?_ ?_ ?_
   ·intro v W W9 h9 hg9
    rw [show Rof (fun w w' : World => w' = w) (fun w w' => w.grownBy w' none) 8 (0 + 1 + 1 + 1 + 1 + 1 + 1 + 1 + 1) = (fun w w' : World => w' = w) from rfl] at hg9
    rw [hg9]; exact h9
   ·intro W gg hu
    obtain rfl := hu rfl
    refine ⟨_, W0.drew.alloc (.cells #[.int .i64 0, .slice none 0 0, .slice none 0 0, .slice none 0 0] 53), by simp [go_sem]; rfl, ?_, ?_⟩
    ·rw [show Rof (fun w w' => w.grownBy w' none) (fun w w' : World => w' = w) 8 (0 + 1 + 1 + 1 + 1 + 1 + 1 + 1 + 1) = (fun w w' : World => w.grownBy w' none) from rfl]
     exact World.grownBy_alloc _ _ _
    ·exact ⟨rfl, Bk.new _ _ _, grown_trans (grown_drew GR) (World.grownBy_alloc _ _ _)⟩
   intro v
   simp only [Act.put, List.setIfInBounds_toArray, List.set_cons_succ, List.set_cons_zero]
   refine lu_end fun W8 g8 hh => ?_
   obtain ⟨hv, hk8, hg8⟩ := hh (8, fun w9 => v = .pointer (some ⟨W0.heap.size, 0, none⟩) ∧ Bk w9 W0.heap.size 53 [.int .i64 0, .slice none 0 0, .slice none 0 0, .slice none 0 0] ∧ W1.grownBy w9 none) (by simp)
   subst hv
   obtain ⟨B6, hB6⟩ : ∃ B, B = W0.heap.size := ⟨_, rfl⟩
   rw [← hB6] at hk8 ⊢
   have hB6s : W1.heap.size ≤ B6 := by rw [hB6]; exact GR.size
   clear hh hB6
   have f0 := hk8.frozen 0
   have f1 := hk8.frozen 1
   have f2 := hk8.frozen 2
   have f3 := hk8.frozen 3
   have q0 := hk8.cell (i := 0) rfl
   have q1 := hk8.cell (i := 1) rfl
   have q2 := hk8.cell (i := 2) rfl
   have q3 := hk8.cell (i := 3) rfl
   have hk9 := (((hk8.set 0 (.int .i64 pn)).set 1 (.slice b1 g.locals.length j1)).set 2 (.slice b2 g.results.length j2)).set 3 (.slice b3 g.body.length j3)
   have hg9 : W1.grownBy ((((W8.setCell ⟨B6, 0, none⟩ (.int .i64 pn)).setCell ⟨B6, 1, none⟩ (.slice b1 g.locals.length j1)).setCell ⟨B6, 2, none⟩ (.slice b2 g.results.length j2)).setCell ⟨B6, 3, none⟩ (.slice b3 g.body.length j3)) none := (((((Ch.of (l := [B6]) hg8).trans (Ch.one (grown_set _ _ _ _) (by simp))).trans (Ch.one (grown_set _ _ _ _) (by simp))).trans (Ch.one (grown_set _ _ _ _) (by simp))).trans (Ch.one (grown_set _ _ _ _) (by simp))).nil (by simp; omega)
   have r0 := hk9.cell (i := 0) rfl
   have r1 := hk9.cell (i := 1) rfl
   have r2 := hk9.cell (i := 2) rfl
   have x3 := HF.out.x3 _ hg9
   have HG9 : Hid (W1.grownBy ((((W8.setCell ⟨B6, 0, none⟩ (.int .i64 pn)).setCell ⟨B6, 1, none⟩ (.slice b1 g.locals.length j1)).setCell ⟨B6, 2, none⟩ (.slice b2 g.results.length j2)).setCell ⟨B6, 3, none⟩ (.slice b3 g.body.length j3)) none) := hg9
   have HK9 : Hid (Bk ((((W8.setCell ⟨B6, 0, none⟩ (.int .i64 pn)).setCell ⟨B6, 1, none⟩ (.slice b1 g.locals.length j1)).setCell ⟨B6, 2, none⟩ (.slice b2 g.results.length j2)).setCell ⟨B6, 3, none⟩ (.slice b3 g.body.length j3)) B6 53 [.int .i64 pn, .slice b1 g.locals.length j1, .slice b2 g.results.length j2, .slice b3 g.body.length j3]) := hk9
   clear hk8 hk9 hg8 hg9
   simp only [List.drop_succ_cons, List.drop_zero]
   go_wp2_with (first | (go_at_call 42; refine (HM.out _ _ _).mono ?_; rintro e w3 ⟨rfl, hw3⟩; rw [hw3]; clear hw3 w3; simp only [cond_true, cond_false]) | (go_at_call 168; refine (HE.out _ HG9.out).mono ?_; rintro e w7 ⟨rfl, hg7⟩; have HG7 : Hid (W1.grownBy w7 none) := grown_trans HG9.out hg7; have HK7 : Hid (Bk w7 B6 53 [.int .i64 pn, .slice b1 g.locals.length j1, .slice b2 g.results.length j2, .slice b3 g.body.length j3]) := HK9.out.grow hg7; have x37 := HF.out.x3 w7 HG7.out; clear hg7 HE) | (go_at_call 218; refine (HAl.out _ HG7.out).mono ?_; rintro e w10 ⟨rfl, hg10⟩; have HG10 : Hid (W1.grownBy w10 none) := grown_trans HG7.out hg10; have HK10 : Hid (Bk w10 B6 53 [.int .i64 pn, .slice b1 g.locals.length j1, .slice b2 g.results.length j2, .slice b3 g.body.length j3]) := HK7.out.grow hg10; have x310 := HF.out.x3 w10 HG10.out; clear hg10 HAl))
   exact ⟨rfl, by rw [HR.out, HCal.out, HZ4.out]; simp [Ck.must, ckE, bind, Except.bind, HZe.out, HZl.out], grown_trans HG.out HG10.out⟩
  have HLo : Hid (∀ x, x ∈ dst → 0 ≤ x ∧ x < (c.f.locals.length : Int)) := Ck.locs_all HZl.out
  go_enter Tryz.func196, Tryz.ntmps196
  go_wp2_with fail
  rw [HW.out.1, HW.out.2]
  refine region_lg 8 (World.grownBy.refl _ _) (by kernel_rfl) (by kernel_rfl) (by kernel_rfl) (by kernel_rfl) ?_
  simp only [List.take_succ_cons, List.take_zero]
  repeat (first
   | (refine lx_end fun W0 GR => ?_)
   | (refine lx_no ?_ ?_ ?_; (· simp [Region.wanted]; done); (· kernel_rfl); simp only [Act.put, List.setIfInBounds_toArray, List.set_cons_succ, List.set_cons_zero])
   | (refine lx_val (v := ?_) ?_ ?_ ?_ ?_; rotate_left; (· kernel_rfl); (· exact ⟨by kernel_rfl, rfl⟩); (· intro W g; simp [go_sem, HKf.out W g, HF.out.x1 W g]; rfl); simp only [Act.put, List.setIfInBounds_toArray, List.set_cons_succ, List.set_cons_zero])
   | (refine lx_callg HN.out ?_ ?_ ?_ ?_; (· kernel_rfl); (· exact ⟨by kernel_rfl, rfl⟩); (· intro W g; simp [go_sem]; done); simp only [Act.put, List.setIfInBounds_toArray, List.set_cons_succ, List.set_cons_zero]))
  simp only [List.drop_succ_cons, List.drop_zero]
  go_wp2_with (go_at_call 42; refine (HM.out _ _ _).mono ?_; rintro e w3 ⟨rfl, hw3⟩; rw [hw3]; clear hw3 w3; simp only [cond_true])
  refine region_lu (fun w w' => w.grownBy w' none) (fun w w' => w' = w) (fun W => W = W0.drew) 8 (fun h1 h2 => grown_trans h1 h2) (fun w => rfl) (fun h => by rw [h]; exact World.grownBy.refl _ _) (fun g h => g.trans h) 9 [.val (.pointer (some ⟨SB, 0, none⟩)), .val (.pointer (some ⟨SB, 0, none⟩)), .val (.pointer (some ⟨SB, 2, none⟩)), .val (.slice (some ⟨fb, fo, none⟩) c.fs.length A.fc), .val (.pointer (some ⟨B4, 1, none⟩)), .val (.int .i64 (j : Int)), .val (.pointer (some ⟨fb, fo + j * 4, none⟩)), .val (.agg #[.int .i64 pn, .slice b1 g.locals.length j1, .slice b2 g.results.length j2, .slice b3 g.body.length j3]), .prop (fun v w9 => v = .pointer (some ⟨W0.heap.size, 0, none⟩) ∧ Bk w9 W0.heap.size 53 [.int .i64 0, .slice none 0 0, .slice none 0 0, .slice none 0 0] ∧ W1.grownBy w9 none)] rfl (by kernel_rfl) (by kernel_rfl) (by kernel_rfl) (by kernel_rfl) rfl ?_
  simp only [List.take_succ_cons, List.take_zero]
  repeat (refine lu_val (x := _) rfl ?_ ?_ (fun w => rfl) (fun h => by rw [h]; exact World.grownBy.refl _ _) ?_ ?_; (· kernel_rfl); (· exact ⟨by kernel_rfl, rfl⟩); (· intro W gg; have g9 : W1.grownBy W none := grown_trans (grown_drew GR) gg; simp [go_sem, HKf.out W g9, HF.out.x1 W g9, (HC.out W g9).1, (HC.out W g9).2.1, (HC.out W g9).2.2.1, (HC.out W g9).2.2.2, hj']; done); simp only [Act.put, List.setIfInBounds_toArray, List.set_cons_succ, List.set_cons_zero])
  refine lu_new rfl (by kernel_rfl) ⟨by kernel_rfl, rfl⟩ ?_ ?_ ?_
  ·intro v W W9 h9 hg9
   rw [show Rof (fun w w' : World => w' = w) (fun w w' => w.grownBy w' none) 8 (0 + 1 + 1 + 1 + 1 + 1 + 1 + 1 + 1) = (fun w w' : World => w' = w) from rfl] at hg9
   rw [hg9]; exact h9
  ·intro W gg hu
   obtain rfl := hu rfl
   refine ⟨_, W0.drew.alloc (.cells #[.int .i64 0, .slice none 0 0, .slice none 0 0, .slice none 0 0] 53), by simp [go_sem]; rfl, ?_, ?_⟩
   ·rw [show Rof (fun w w' => w.grownBy w' none) (fun w w' : World => w' = w) 8 (0 + 1 + 1 + 1 + 1 + 1 + 1 + 1 + 1) = (fun w w' : World => w.grownBy w' none) from rfl]
    exact World.grownBy_alloc _ _ _
   ·exact ⟨rfl, Bk.new _ _ _, grown_trans (grown_drew GR) (World.grownBy_alloc _ _ _)⟩
  intro v
  simp only [Act.put, List.setIfInBounds_toArray, List.set_cons_succ, List.set_cons_zero]
  refine lu_end fun W8 g8 hh => ?_
  obtain ⟨hv, hk8, hg8⟩ := hh (8, fun w9 => v = .pointer (some ⟨W0.heap.size, 0, none⟩) ∧ Bk w9 W0.heap.size 53 [.int .i64 0, .slice none 0 0, .slice none 0 0, .slice none 0 0] ∧ W1.grownBy w9 none) (by simp)
  subst hv
  obtain ⟨B6, hB6⟩ : ∃ B, B = W0.heap.size := ⟨_, rfl⟩
  rw [← hB6] at hk8 ⊢
  have hB6s : W1.heap.size ≤ B6 := by rw [hB6]; exact GR.size
  clear hh hB6
  have f0 := hk8.frozen 0
  have f1 := hk8.frozen 1
  have f2 := hk8.frozen 2
  have f3 := hk8.frozen 3
  have q0 := hk8.cell (i := 0) rfl
  have q1 := hk8.cell (i := 1) rfl
  have q2 := hk8.cell (i := 2) rfl
  have q3 := hk8.cell (i := 3) rfl
  have hk9 := (((hk8.set 0 (.int .i64 pn)).set 1 (.slice b1 g.locals.length j1)).set 2 (.slice b2 g.results.length j2)).set 3 (.slice b3 g.body.length j3)
  have hg9 : W1.grownBy ((((W8.setCell ⟨B6, 0, none⟩ (.int .i64 pn)).setCell ⟨B6, 1, none⟩ (.slice b1 g.locals.length j1)).setCell ⟨B6, 2, none⟩ (.slice b2 g.results.length j2)).setCell ⟨B6, 3, none⟩ (.slice b3 g.body.length j3)) none := (((((Ch.of (l := [B6]) hg8).trans (Ch.one (grown_set _ _ _ _) (by simp))).trans (Ch.one (grown_set _ _ _ _) (by simp))).trans (Ch.one (grown_set _ _ _ _) (by simp))).trans (Ch.one (grown_set _ _ _ _) (by simp))).nil (by simp; omega)
  have r0 := hk9.cell (i := 0) rfl
  have r1 := hk9.cell (i := 1) rfl
  have r2 := hk9.cell (i := 2) rfl
  have x3 := HF.out.x3 _ hg9
  have HG9 : Hid (W1.grownBy ((((W8.setCell ⟨B6, 0, none⟩ (.int .i64 pn)).setCell ⟨B6, 1, none⟩ (.slice b1 g.locals.length j1)).setCell ⟨B6, 2, none⟩ (.slice b2 g.results.length j2)).setCell ⟨B6, 3, none⟩ (.slice b3 g.body.length j3)) none) := hg9
  have HK9 : Hid (Bk ((((W8.setCell ⟨B6, 0, none⟩ (.int .i64 pn)).setCell ⟨B6, 1, none⟩ (.slice b1 g.locals.length j1)).setCell ⟨B6, 2, none⟩ (.slice b2 g.results.length j2)).setCell ⟨B6, 3, none⟩ (.slice b3 g.body.length j3)) B6 53 [.int .i64 pn, .slice b1 g.locals.length j1, .slice b2 g.results.length j2, .slice b3 g.body.length j3]) := hk9
  clear hk8 hk9 hg8 hg9
  simp only [List.drop_succ_cons, List.drop_zero]
  go_wp2_with (first | (go_at_call 42; refine (HM.out _ _ _).mono ?_; rintro e w3 ⟨rfl, hw3⟩; rw [hw3]; clear hw3 w3; simp only [cond_true]) | (go_at_call 168; refine (HE.out _ HG9.out).mono ?_; rintro e w7 ⟨rfl, hg7⟩; have HG7 : Hid (W1.grownBy w7 none) := grown_trans HG9.out hg7; have HK7 : Hid (Bk w7 B6 53 [.int .i64 pn, .slice b1 g.locals.length j1, .slice b2 g.results.length j2, .slice b3 g.body.length j3]) := HK9.out.grow hg7; have x37 := HF.out.x3 w7 HG7.out; clear hg7 HE) | (go_at_call 218; refine (HAl.out _ HG7.out).mono ?_; rintro e w10 ⟨rfl, hg10⟩; have HG10 : Hid (W1.grownBy w10 none) := grown_trans HG7.out hg10; have HK10 : Hid (Bk w10 B6 53 [.int .i64 pn, .slice b1 g.locals.length j1, .slice b2 g.results.length j2, .slice b3 g.body.length j3]) := HK7.out.grow hg10; have x310 := HF.out.x3 w10 HG10.out; clear hg10 HAl))
  go_wp2_with fail
  go_loopw [57] (fun ix wr => ∃ k : Nat, ix = .int .i64 k ∧ k ≤ dst.length ∧ W1.grownBy wr none ∧ Bk wr B6 53 [.int .i64 pn, .slice b1 g.locals.length j1, .slice b2 g.results.length j2, .slice b3 g.body.length j3] ∧ ∀ i, i < k → c.f.locals.getD (dst.getD i 0).toNat 0 = g.results.getD i 0) (fun ix _ => dst.length - (intOf ix).toNat)
  case atStart => exact ⟨0, rfl, Nat.zero_le _, HG10.out, HK10.out, fun i hi => by omega⟩
  case round =>
   obtain ⟨k, rfl, hk, hgr, hkr, hall⟩ := hrel
   have HGw : Hid (W1.grownBy wr none) := hgr
   have HKw : Hid (Bk wr B6 53 [.int .i64 pn, .slice b1 g.locals.length j1, .slice b2 g.results.length j2, .slice b3 g.body.length j3]) := hkr
   have HAll : Hid (∀ i, i < k → c.f.locals.getD (dst.getD i 0).toNat 0 = g.results.getD i 0) := hall
   clear hgr hkr hall
   by_cases hkn : k < dst.length
   ·skip
    have hkn' : (k : Int) < dst.length := by omega
    have hkr' : (k : Int) < g.results.length := by have := HDr.out; omega
    obtain ⟨db, do_, rfl, _, cd⟩ := (HDs.out wr HGw.out).at hkn
    obtain ⟨xn, hxn, hxl⟩ := ent_nat (HLo.out (dst.getD k 0) (by rw [List.getD_eq_getElem?_getD, List.getElem?_eq_getElem hkn]; exact List.getElem_mem hkn))
    have hxl' : (xn : Int) < c.f.locals.length := by omega
    rw [hxn] at cd
    obtain ⟨lb, lo, hla, _, cl⟩ := ((HF.out.sc wr HGw.out).lo).at hxl
    obtain ⟨rb, ro, hra, _, cr⟩ := (HGr.out wr HGw.out).at (show k < g.results.length by have := HDr.out; omega)
    subst hra
    obtain ⟨Lv, hLv⟩ : ∃ z, z = c.f.locals.getD xn 0 := ⟨_, rfl⟩
    obtain ⟨Rv, hRv⟩ : ∃ z, z = g.results.getD k 0 := ⟨_, rfl⟩
    rw [← hLv] at cl
    rw [← hRv] at cr
    have HV : Hid (c.f.locals.getD (dst.getD k 0).toNat 0 = Lv ∧ g.results.getD k 0 = Rv) := ⟨by rw [hxn, Int.toNat_natCast, hLv], hRv.symm⟩
    have hllx := (HF.out.sc wr HGw.out).lo.le
    have hlmx := (HF.out.sc wr HGw.out).lo.max
    unfold maxLen at hlmx
    have HFc : Hid (∀ W, wr.grownBy W none → W.cell? ⟨SB, 4, none⟩ = some (.slice (some ⟨lb, lo, none⟩) c.f.locals.length A.lc) ∧ W.cell? ⟨lb, lo + xn, none⟩ = some (.int .i64 Lv) ∧ W.cell? ⟨B6, 2, none⟩ = some (.slice (some ⟨rb, ro, none⟩) g.results.length j2) ∧ W.cell? ⟨rb, ro + k, none⟩ = some (.int .i64 Rv)) := fun W gg => ⟨by rw [← hla]; exact HF.out.k4 W (grown_trans HGw.out gg), gg.cell cl (by simp), (HKw.out.grow gg).cell (i := 2) rfl, gg.cell cr (by simp)⟩
    clear hLv hRv hxn hla cl cr
    rcases Bool.eq_false_or_eq_true (Lv == Rv) with qv | qv
    ·have HQv : Hid (Lv = Rv) := by show _ = _; simpa using qv
     go_wp2_with fail
     refine region_lg (W1 := wr) 14 (World.grownBy.refl _ _) (by kernel_rfl) (by kernel_rfl) (by kernel_rfl) (by kernel_rfl) ?_
     simp only [List.take_succ_cons, List.take_zero]
     repeat (first
      | (refine lx_end fun V0 GV => ?_)
      | (refine lx_no ?_ ?_ ?_; (· simp [Region.wanted]; done); (· kernel_rfl); simp only [Act.put, List.setIfInBounds_toArray, List.set_cons_succ, List.set_cons_zero])
      | (refine lx_val (v := ?_) ?_ ?_ ?_ ?_; rotate_left; (· kernel_rfl); (· exact ⟨by kernel_rfl, rfl⟩); (· intro W g; simp [go_sem, (HFc.out W g).1, (HFc.out W g).2.1, (HFc.out W g).2.2.1, (HFc.out W g).2.2.2, hxl', hkr', qv]; rfl); simp only [Act.put, List.setIfInBounds_toArray, List.set_cons_succ, List.set_cons_zero]))
     simp only [List.drop_succ_cons, List.drop_zero]
     go_wp2_with (go_at_call 42; refine (HM.out _ _ _).mono ?_; rintro e w3 ⟨rfl, hw3⟩; rw [hw3]; clear hw3 w3; simp only [cond_true])
     go_wp2
     go_roundw
     case rel => exact ⟨k + 1, by go_num, by omega, grown_trans HGw.out GV, HKw.out.grow GV, fun i hi => by
      by_cases e : i < k
      ·exact HAll.out i e
      ·obtain rfl : i = k := by omega
       rw [HV.out.1, HV.out.2, HQv.out]⟩
     case measure => simp [intOf]; omega
    ·have HQv : Hid (¬ Lv = Rv) := by show ¬ _; simpa using qv
     go_wp2_with fail
     refine region_lg (W1 := wr) 14 (World.grownBy.refl _ _) (by kernel_rfl) (by kernel_rfl) (by kernel_rfl) (by kernel_rfl) ?_
     simp only [List.take_succ_cons, List.take_zero]
     repeat (first
      | (refine lx_end fun V0 GV => ?_)
      | (refine lx_no ?_ ?_ ?_; (· simp [Region.wanted]; done); (· kernel_rfl); simp only [Act.put, List.setIfInBounds_toArray, List.set_cons_succ, List.set_cons_zero])
      | (refine lx_val (v := ?_) ?_ ?_ ?_ ?_; rotate_left; (· kernel_rfl); (· exact ⟨by kernel_rfl, rfl⟩); (· intro W g; simp [go_sem, (HFc.out W g).1, (HFc.out W g).2.1, (HFc.out W g).2.2.1, (HFc.out W g).2.2.2, hxl', hkr', qv]; rfl); simp only [Act.put, List.setIfInBounds_toArray, List.set_cons_succ, List.set_cons_zero]))
     simp only [List.drop_succ_cons, List.drop_zero]
     go_wp2_with (go_at_call 42; refine (HM.out _ _ _).mono ?_; rintro e w3 ⟨rfl, hw3⟩; rw [hw3]; clear hw3 w3; simp only [cond_false])
     have hne : (dst.map (fun x => c.f.locals.getD x.toNat 0) == g.results) = false := by
      rw [beq_eq_false_iff_ne]
      intro e
      apply HQv.out
      have e1 := congrArg (fun l : List Int => l.getD k 0) e
      simp only [List.getD_eq_getElem?_getD, List.getElem?_map, List.getElem?_eq_getElem hkn, Option.map_some] at e1
      have e2 := HV.out.1
      have e3 := HV.out.2
      simp only [List.getD_eq_getElem?_getD, List.getElem?_eq_getElem hkn] at e2 e3
      rw [← e2, ← e3]
      exact e1
     exact ⟨rfl, by rw [HR.out, HCal.out, HZ4.out, HZe.out, HZl.out, hne]; rfl, grown_trans HG.out (grown_trans HGw.out GV)⟩
   ·obtain rfl : k = dst.length := by omega
    have heq : (dst.map (fun x => c.f.locals.getD x.toNat 0) == g.results) = true := by
     rw [beq_iff_eq]
     refine List.ext_getElem (by have := HDr.out; simp; omega) fun i h1 h2 => ?_
     have h1 : i < dst.length := by simpa using h1
     have := HAll.out i h1
     simp only [List.getD_eq_getElem?_getD, List.getElem?_eq_getElem h1, List.getElem?_eq_getElem h2] at this
     simpa using this
    go_wp2
    go_end0
    exact ⟨by rw [HR.out, HCal.out, HZ4.out, HZe.out, HZl.out, heq]; rfl, grown_trans HG.out HGw.out⟩
end Go.Proofs.YtpcgkggpmipiaaaGreat
