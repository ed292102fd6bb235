/- Contracts and plain facts that the walks share, text by text: LkImms, LkEnc. -/
import Derived.Test.YtkiockffejlnhaaGreatDoorG17
import Derived.Laws.AppendOwnNone
/- link's imms, tooFar. -/
namespace Go.Proofs.YtkiockffejlnhaaGreatDoor
open Go.RowKit
set_option linter.unusedVariables false
theorem range_snoc (n : Nat) (g : Nat → Int) : (List.range n).map g ++ [g n] = (List.range (n + 1)).map g := by rw [List.range_succ, List.map_append]; rfl
theorem OwnN.kept {w w' : World} {base n : Nat} {v : Value} {g : Nat → Int} {row : Option Nat} (h : OwnN w base v n g) (hg : w.grownBy w' row) (hne : v.ownBlock = none ∨ v.ownBlock ≠ row) : OwnN w' base v n g := World.ownsRow.kept h hg hne
theorem OwnZ.kept {w w' : World} {base : Nat} {v : Value} {l : List Int} {row : Option Nat} (h : OwnZ w base v l) (hg : w.grownBy w' row) (hne : v.ownBlock = none ∨ v.ownBlock ≠ row) : OwnZ w' base v l := World.ownsRow.kept h hg hne
namespace Lk
def immS (P : PcV) (t : Int) (S : Nat → Int) (i : Nat) : Int := pos S ((P.sh t).tg i) - pos S (i + 1)
def immJ (P : PcV) (t : Int) (S : Nat → Int) (i : Nat) : Int := if jmpB (P.I i).op then immS P t S i else 0
end Lk
set_option maxRecDepth 100000 in
set_option maxHeartbeats 8000000 in
theorem pimms_any {N : Nat} {w : World} {B fe : Nat} {P : Lk.PcV} {ia ma : Option Addr} {ic mc : Nat} {sv : Value} {base : Nat} {S : Nat → Int} {t p : Int} (h : Pt N w B fe P ia ma ic mc sv) (ho : OwnN w base sv P.n S) (hP : P.Ok t p) (hn : P.n ≤ 1100000) (hS : ∀ i, i < P.n → 0 ≤ S i ∧ S i ≤ 40) :
    Calls Tryz.prog 41 #[.pointer (some ⟨B, 0, none⟩)] w fun e w' => ∃ T, e = .returned (.slice (some ⟨T, 0, none⟩) P.n P.n) ∧ OwnN w' w.heap.size (.slice (some ⟨T, 0, none⟩) P.n P.n) P.n (Lk.immJ P t S) ∧ w.grownBy w' none := by
  have hpos : ∀ k, k ≤ P.n → 0 ≤ Lk.pos S k ∧ Lk.pos S k ≤ 44000000 := fun k hk => by
    have := pos_lim (n := k) (s := S) (B := 40) (fun i hi => hS i (by omega))
    omega
  have HP : Hid (∀ W, w.grownBy W none → Calls Tryz.prog 63 #[.pointer (some ⟨B, 0, none⟩)] W fun e w' => e = .returned (.tuple #[.slice (some ⟨W.heap.size, 0, none⟩) P.n P.n, .int .i64 (Lk.pos S P.n)]) ∧ OwnN w' W.heap.size (.slice (some ⟨W.heap.size, 0, none⟩) P.n P.n) P.n (Lk.pos S) ∧ W.grownBy w' none) := fun W hW => pplaces_any (h.grow hW) (ho.grow hW) (by omega) (fun k hk => by have := hpos k hk; omega)
  have HJ : Hid (∀ W, w.grownBy W none → Calls Tryz.prog 64 #[.pointer (some ⟨B, 0, none⟩)] W fun e w' => ∃ v, e = .returned v ∧ OwnZ w' W.heap.size v (Lk.jl P P.n) ∧ W.grownBy w' none) := fun W hW => pjumps_any (h.grow hW) hn
  have HT : Hid (∀ i, i < P.n → Lk.jmpB (P.I i).op = true → ∃ x : Nat, (P.sh t).tg i = x ∧ x ≤ P.n ∧ ∀ W, w.grownBy W none → Calls Tryz.prog 65 #[.pointer (some ⟨B, 0, none⟩), .int .i64 i] W fun e w' => e = .returned (.int .i64 x) ∧ W.grownBy w' none) := fun i hi hj => by
    have hl := Lk.lab_jmp (hP.may hi).1 hj
    have hM := hP.marks (P.I i).label.toNat (by omega)
    refine ⟨(P.M (P.I i).label.toNat).toNat, rfl, by omega, fun W hW => ?_⟩
    refine (ptarget_any (h.grow hW) hi hl.2.1 hl.2.2).mono ?_
    rintro e w' ⟨rfl, d, rfl⟩
    refine ⟨?_, grown_drewN (World.grownBy.refl _ _) d⟩
    rw [show (((P.M (P.I i).label.toNat).toNat : Nat) : Int) = P.M (P.I i).label.toNat from by omega]
  have HQ : Hid (∀ k, k ≤ P.n → 0 ≤ Lk.pos S k ∧ Lk.pos S k ≤ 44000000) := hpos
  have HM : Hid (∀ x, x ∈ Lk.jl P P.n → ∃ i : Nat, i < P.n ∧ x = i ∧ Lk.jmpB (P.I i).op = true) := fun x hx => (Lk.jl_mem P).1 hx
  have HM2 : Hid (∀ i, i < P.n → Lk.jmpB (P.I i).op = true → (i : Int) ∈ Lk.jl P P.n) := fun i hi hj => (Lk.jl_mem P).2 ⟨i, hi, rfl, hj⟩
  have hjl := Lk.jl_len P P.n
  have c1 := h.c1
  have HC1 : Hid (w.cell? ⟨B, 1, none⟩ = some (.slice ia P.n ic)) := c1
  clear hpos h ho hP hS c1
  obtain ⟨n, hnn⟩ : ∃ n, n = P.n := ⟨_, rfl⟩
  obtain ⟨js, hjs⟩ : ∃ js, js = Lk.jl P P.n := ⟨_, rfl⟩
  rw [← hjs] at HJ HM HM2 hjl
  rw [← hnn] at HP HT HQ HM HM2 HC1 hn hjl ⊢
  clear hjs hnn
  have hn' : (n : Int) ≤ 1100000 := by omega
  go_enter Tryz.func41, Tryz.ntmps41
  go_wp2_with (first
    | (go_at_call 63; refine (HP.out _ (World.grownBy.refl _ _)).mono ?_; rintro e w1 ⟨rfl, ho1, hg1⟩; have HO1 : Hid (OwnZ w1 w.heap.size (.slice (some ⟨w.heap.size, 0, none⟩) n n) ((List.range n).map (Lk.pos S))) := ho1.z; have HG1 : Hid (w.grownBy w1 none) := hg1; have hs1 := hg1.size; clear ho1 hg1)
    | (at_builtin; refine wp_appZ rfl _ _ rfl w.heap.size (.slice (some ⟨w.heap.size, 0, none⟩) n n) ((List.range n).map (Lk.pos S)) (Lk.pos S n) rfl HO1.out rfl (by simp; omega) hs1 ?_; intro v2 w2 ho2 hg2; rw [range_snoc] at ho2; obtain ⟨a2, c2, rfl, hc2, hm2, ha2⟩ := ho2.slice; obtain ⟨T2, rfl, hT2, hl2⟩ := ha2 (by simp); have HG2 : Hid (w.grownBy w2 none) := own_new (v := .nilFunc) HG1.out hg2 HO1.out.base; have HO2 : Hid (OwnN w2 w.heap.size (.slice (some ⟨T2, 0, none⟩) (n + 1) c2) (n + 1) (Lk.pos S)) := by { have := ho2.n; simp only [List.length_map, List.length_range] at this; exact this.congr (fun i hi => by simp [List.getD_eq_getElem?_getD, hi]) }; clear ho2 hg2 HO1; have c12 := HG2.out.cell HC1.out (by simp); simp only [List.length_map, List.length_range] at *; obtain ⟨w3, hmk, ho3, hg3⟩ := run_make_n w2 n (by omega); have HO3 : Hid (OwnN w3 w2.heap.size (.slice (some ⟨w2.heap.size, 0, none⟩) n n) n (fun _ => 0)) := ho3; have HG3 : Hid (w2.grownBy w3 none) := hg3; clear ho3 hg3)
    | (go_at_call 64; refine (HJ.out _ (grown_trans HG2.out HG3.out)).mono ?_; rintro e w4 ⟨v4, rfl, ho4, hg4⟩; obtain ⟨a4, c4, rfl, hc4, hm4, ha4⟩ := ho4.slice; have HO4 : Hid (OwnZ w4 w3.heap.size (.slice a4 js.length c4) js) := ho4; have HG4 : Hid (w3.grownBy w4 none) := hg4; clear ho4 hg4))
  have HGa : Hid (w.grownBy w4 none) := grown_trans HG2.out (grown_trans HG3.out HG4.out)
  have HOa : Hid (OwnN w4 w.heap.size (.slice (some ⟨T2, 0, none⟩) (n + 1) c2) (n + 1) (Lk.pos S)) := HO2.out.grow (grown_trans HG3.out HG4.out)
  have HOj : Hid (OwnN w4 w2.heap.size (.slice (some ⟨w2.heap.size, 0, none⟩) n n) n (fun _ => 0)) := HO3.out.grow HG4.out
  have hI2 : w.heap.size ≤ w2.heap.size := HG2.out.size
  have hI3 : w2.heap.size < w3.heap.size := (World.ownsRow.lt HO3.out w2.heap.size rfl).2
  have hTl : T2 < w2.heap.size := hl2
  obtain ⟨I, hI⟩ : ∃ I, I = w2.heap.size := ⟨_, rfl⟩
  rw [← hI] at HOj hI2 hI3 hTl ⊢
  clear HO2 HO3 HG2 HG3 HG4 HG1 hl2 c12 hmk HP HJ HC1 hI hs1
  go_loopw [26] (fun i wr => ∃ q : Nat, i = .int .i64 q ∧ q ≤ js.length ∧ OwnN wr I (.slice (some ⟨I, 0, none⟩) n n) n (fun i => if (i : Int) ∈ js.take q then Lk.immS P t S i else 0) ∧ w4.grownBy wr (some I)) (fun i _ => js.length - (intOf i).toNat)
  case atStart => exact ⟨0, rfl, Nat.zero_le _, HOj.out.congr (fun i _ => by simp), World.grownBy.refl _ _⟩
  case round =>
    obtain ⟨q, rfl, hq, hoq, hgq⟩ := hrel
    have HOq : Hid (OwnN wr I (.slice (some ⟨I, 0, none⟩) n n) n (fun i => if (i : Int) ∈ js.take q then Lk.immS P t S i else 0)) := hoq
    have HGq : Hid (w4.grownBy wr (some I)) := hgq
    have HGw : Hid (w.grownBy wr none) := grown_two HGa.out hgq hI2
    have HOb : Hid (OwnN wr w.heap.size (.slice (some ⟨T2, 0, none⟩) (n + 1) c2) (n + 1) (Lk.pos S)) := HOa.out.kept hgq (.inr (by simp [Value.ownBlock]; omega))
    have HOc : Hid (OwnZ wr w3.heap.size (.slice a4 js.length c4) js) := HO4.out.kept hgq (by
      cases hb : (Value.slice a4 js.length c4).ownBlock with
      | none => exact .inl rfl
      | some b => exact .inr (by have := HO4.out.base b hb; simp; omega))
    clear hoq hgq
    by_cases hqj : q < js.length
    · have hqj' : (q : Int) < js.length := by omega
      obtain ⟨TJ, rfl, _, _⟩ := ha4 (by omega)
      obtain ⟨i, hi, hx, hj⟩ := HM.out js[q] (List.getElem_mem hqj)
      have cj : wr.cell? ⟨TJ, q, none⟩ = some (.int .i64 (i : Int)) := by
        have := HOc.out.n.cell hqj
        rw [this, List.getD_eq_getElem?_getD, List.getElem?_eq_getElem hqj]
        simp [hx]
      obtain ⟨x, htg, hxn, htc⟩ := HT.out i hi hj
      have HTC : Hid (∀ W, w.grownBy W none → Calls Tryz.prog 65 #[.pointer (some ⟨B, 0, none⟩), .int .i64 i] W fun e w' => e = .returned (.int .i64 x) ∧ W.grownBy w' none) := htc
      have hb1 := HQ.out x hxn
      have hb2 := HQ.out (i + 1) (by omega)
      have HIm : Hid (Lk.immS P t S i = Lk.pos S x - Lk.pos S (i + 1)) := by show _ = _; unfold Lk.immS; rw [htg]
      have hxn' : (x : Int) < (n : Int) + 1 := by omega
      have hi' : (i : Int) < n := by omega
      have hi1 : (i : Int) + 1 < (n : Int) + 1 := by omega
      have HTk : Hid (js.take (q + 1) = js.take q ++ [(i : Int)]) := by show _ = _; rw [List.take_succ_eq_append_getElem hqj, hx]
      clear htg htc hx
      go_wp2_with fail
      refine tail_class (fun w' => ∃ y : Gw wr, w' = y.w) 15 (by kernel_rfl) (by kernel_rfl) ⟨⟨wr.drew, grown_drew (World.grownBy.refl _ _)⟩, rfl⟩ ?_
      have e1 := fun y : Gw wr => (HOb.out.grow y.h).cell (i := x) (by omega)
      have e2 := fun y : Gw wr => (HOb.out.grow y.h).cell (i := i + 1) (by omega)
      have HTD : Hid (∀ y : Gw wr, Calls Tryz.prog 65 #[.pointer (some ⟨B, 0, none⟩), .int .i64 i] y.w fun e w' => e = .returned (.int .i64 x) ∧ y.w.grownBy w' none) := fun y => HTC.out _ (grown_trans HGw.out y.h)
      simp only [List.take_succ_cons, List.take_zero, List.drop_succ_cons, List.drop_zero]
      repeat (go_big_quiet_step (first | exact rfl | (go_at_call 65; exact Gw.call (HTD.out _))))
      refine wpQuiet_nil ?_
      rintro W8 ⟨y8, hy8⟩
      have g : wr.grownBy W8 none := by rw [hy8]; exact y8.h
      clear hy8 y8 e1 e2 HTD
      have f8 := (HOq.out.grow g).frozen i
      have c8 := (HOq.out.grow g).cell hi
      have HO9 : Hid (OwnN (W8.setCell ⟨I, i, none⟩ (.int .i64 (Lk.pos S x - Lk.pos S (i + 1)))) I (.slice (some ⟨I, 0, none⟩) n n) n (fun i => if (i : Int) ∈ js.take (q + 1) then Lk.immS P t S i else 0)) := ((HOq.out.grow g).set hi _).congr (fun k hk => by
        unfold setF
        rw [HTk.out]
        by_cases e : k = i
        · subst e
          rw [← HIm.out]
          simp
        · simp [e]
          by_cases hm : (k : Int) ∈ js.take q
          · simp [hm]
          · simp [hm]
            intro h
            omega)
      have HG9 : Hid (w4.grownBy (W8.setCell ⟨I, i, none⟩ (.int .i64 (Lk.pos S x - Lk.pos S (i + 1)))) (some I)) := grown_trans (grown_trans HGq.out (grown_noneR _ g)) (grown_set _ _ _ _)
      clear g
      go_wp2
      go_roundw
      case rel => exact ⟨q + 1, by go_num, by omega, HO9.out, HG9.out⟩
      case measure => simp [intOf]; omega
    · obtain rfl : q = js.length := by omega
      go_wp2
      go_ret
      refine ⟨_, rfl, (HOq.out.congr (fun i hi => ?_)).low hI2, HGw.out⟩
      rw [List.take_length]
      unfold Lk.immJ
      cases hj : Lk.jmpB (P.I i).op
      · rw [if_neg]
        · simp
        · intro hm
          obtain ⟨i', _, e, hj'⟩ := HM.out _ hm
          obtain rfl : i = i' := by omega
          rw [hj] at hj'
          cases hj'
      · rw [if_pos (HM2.out i hi hj)]
        simp
namespace Lk
def farL (J : Nat → Int) (l : List Int) : List Int := l.filter fun x => !fitB (J x.toNat)
theorem farL_snoc (J : Nat → Int) (l : List Int) (i : Nat) : farL J (l ++ [(i : Int)]) = farL J l ++ if fitB (J i) then [] else [(i : Int)] := by
  unfold farL
  rw [List.filter_append]
  cases h : fitB (J i) <;> simp [h]
theorem farL_len (J : Nat → Int) (l : List Int) : (farL J l).length ≤ l.length := List.length_filter_le _ _
end Lk
set_option maxRecDepth 100000 in
set_option maxHeartbeats 8000000 in
theorem pfar_any {N : Nat} {w : World} {B fe : Nat} {P : Lk.PcV} {ia ma : Option Addr} {ic mc : Nat} {sv : Value} {base T : Nat} {J : Nat → Int} (h : Pt N w B fe P ia ma ic mc sv) (ho : OwnN w base (.slice (some ⟨T, 0, none⟩) P.n P.n) P.n J) (hn : P.n ≤ 1100000) :
    Calls Tryz.prog 42 #[.pointer (some ⟨B, 0, none⟩), .slice (some ⟨T, 0, none⟩) P.n P.n] w fun e w' => ∃ v, e = .returned v ∧ OwnZ w' w.heap.size v (Lk.farL J (Lk.jl P P.n)) ∧ w.grownBy w' none := by
  have HJ : Hid (∀ W, w.grownBy W none → Calls Tryz.prog 64 #[.pointer (some ⟨B, 0, none⟩)] W fun e w' => ∃ v, e = .returned v ∧ OwnZ w' W.heap.size v (Lk.jl P P.n) ∧ W.grownBy w' none) := fun W hW => pjumps_any (h.grow hW) hn
  have HM : Hid (∀ x, x ∈ Lk.jl P P.n → ∃ i : Nat, i < P.n ∧ x = i ∧ Lk.jmpB (P.I i).op = true) := fun x hx => (Lk.jl_mem P).1 hx
  have hjl := Lk.jl_len P P.n
  have HO : Hid (OwnN w base (.slice (some ⟨T, 0, none⟩) P.n P.n) P.n J) := ho
  clear h ho
  generalize Lk.jl P P.n = js at *
  generalize P.n = n at *
  have hn' : (n : Int) ≤ 1100000 := by omega
  go_enter Tryz.func42, Tryz.ntmps42
  go_wp2_with (go_at_call 64; refine (HJ.out _ (World.grownBy.refl _ _)).mono ?_; rintro e w4 ⟨v4, rfl, ho4, hg4⟩; obtain ⟨a4, c4, rfl, hc4, hm4, ha4⟩ := ho4.slice; have HO4 : Hid (OwnZ w4 w.heap.size (.slice a4 js.length c4) js) := ho4; have HG4 : Hid (w.grownBy w4 none) := hg4; have hs4 := hg4.size; clear ho4 hg4)
  go_loopw [5, 11] (fun v i wr => ∃ q : Nat, i = .int .i64 q ∧ q ≤ js.length ∧ OwnZ wr w4.heap.size v (Lk.farL J (js.take q)) ∧ w4.grownBy wr none) (fun _ i _ => js.length - (intOf i).toNat)
  case atStart => exact ⟨0, rfl, Nat.zero_le _, World.ownsRow_nil _ _ _ _, World.grownBy.refl _ _⟩
  case round =>
    obtain ⟨al, hal⟩ : ∃ al, al = u5 := ⟨_, rfl⟩
    obtain ⟨q, rfl, hq, hoq, hgq⟩ := hrel
    rw [← hal] at hoq ⊢
    clear hal
    have HOq : Hid (OwnZ wr w4.heap.size al (Lk.farL J (js.take q))) := hoq
    have HGq : Hid (w4.grownBy wr none) := hgq
    have hsq := hgq.size
    have hlq := Lk.farL_len J (js.take q)
    obtain ⟨ao, cp, rfl, _⟩ := hoq.slice
    have HOj : Hid (OwnZ wr w.heap.size (.slice a4 js.length c4) js) := HO4.out.grow hgq
    have HOi : Hid (OwnN wr base (.slice (some ⟨T, 0, none⟩) n n) n J) := HO.out.grow (grown_trans HG4.out hgq)
    clear hoq hgq
    by_cases hqj : q < js.length
    · have hqj' : (q : Int) < js.length := by omega
      obtain ⟨TJ, rfl, _, _⟩ := ha4 (by omega)
      obtain ⟨i, hi, hx, hj⟩ := HM.out js[q] (List.getElem_mem hqj)
      have cj : wr.cell? ⟨TJ, q, none⟩ = some (.int .i64 (i : Int)) := by
        have := HOj.out.n.cell hqj
        rw [this, List.getD_eq_getElem?_getD, List.getElem?_eq_getElem hqj]
        simp [hx]
      have ci := HOi.out.cell hi
      have hi' : (i : Int) < n := by omega
      have HTk : Hid (Lk.farL J (js.take (q + 1)) = Lk.farL J (js.take q) ++ if Lk.fitB (J i) then [] else [(i : Int)]) := by show _ = _; rw [List.take_succ_eq_append_getElem hqj, hx, Lk.farL_snoc]
      have htl : (js.take q).length ≤ q := by simp; omega
      clear hx
      generalize Lk.farL J (js.take q) = L at *
      generalize J i = z at *
      cases hf : Lk.fitB z
      · rw [hf] at HTk
        have HF : Hid (∀ W, Calls Tryz.prog 66 #[.int .i64 z] W fun e w' => e = .returned (.bool false) ∧ w' = W) := fun W => by rw [← hf]; exact fitb_any z W
        go_wp2_with (first | (go_at_call 66; refine (HF.out _).mono ?_; rintro e w5 ⟨rfl, rfl⟩) | (at_builtin; refine wp_appZ rfl _ _ rfl w4.heap.size (.slice ao L.length cp) L (i : Int) rfl HOq.out rfl (by omega) hsq ?_; intro v' w6 ho6 hg6))
        exact ⟨⟨q + 1, by go_num, by omega, ho6.cast (by rw [HTk.out]; simp), own_new (v := .nilFunc) HGq.out hg6 HOq.out.base⟩, by simp [intOf]; omega⟩
      · rw [hf] at HTk
        have HF : Hid (∀ W, Calls Tryz.prog 66 #[.int .i64 z] W fun e w' => e = .returned (.bool true) ∧ w' = W) := fun W => by rw [← hf]; exact fitb_any z W
        go_wp2_with (first | (go_at_call 66; refine (HF.out _).mono ?_; rintro e w5 ⟨rfl, rfl⟩))
        exact ⟨⟨q + 1, by go_num, by omega, HOq.out.cast (by rw [HTk.out]; simp), HGq.out⟩, by simp [intOf]; omega⟩
    · obtain rfl : q = js.length := by omega
      go_wp2
      go_ret
      exact ⟨_, rfl, (HOq.out.low hs4).cast (by rw [List.take_length]), grown_trans HG4.out HGq.out⟩
end Go.Proofs.YtkiockffejlnhaaGreatDoor

/- An instruction's bytes by its target's encoder; the laws' table of bits kept; numbers appended to numbers. -/
namespace Go.Proofs.YtkiockffejlnhaaGreatDoor
open Go.RowKit
set_option linter.unusedVariables false
theorem TabAt.ch {w w' : World} {l : List Nat} (h : TabAt w) (hg : Ch w w' l) (hl : 2 ∉ l) : TabAt w' := ⟨Nat.lt_of_lt_of_le h.1 hg.size, fun i hi => hg.cell (h.2 i hi) hl⟩
theorem enc_r (v : InV) (W : World) (hr : InRng v) (hm : Ru.mayT 1 v = true) :
    Calls Tryz.prog 60 #[.agg #[.int .i64 v.op, .int .i64 v.a, .int .i64 v.b, .int .i64 v.c, .int .i64 v.k, .int .i64 v.sub, .int .i64 v.scale, .int .i64 v.imm, .int .i64 v.label]] W fun e w' => ∃ T' c', e = .returned (.tuple #[.slice (some ⟨T', 0, none⟩) (Ru.encT 1 v).length c', .int .i64 0]) ∧ OwnL w' W.heap.size (.slice (some ⟨T', 0, none⟩) (Ru.encT 1 v).length c') (Ru.encT 1 v) ∧ W.grownBy w' none := by
  unfold Ru.mayT at hm
  rw [if_pos rfl] at hm
  have e1 : Ru.encT 1 v = (List.range 8).map (Rc.enc v) := by unfold Ru.encT; rw [if_pos rfl]
  have el : (Ru.encT 1 v).length = 8 := by rw [e1]; simp
  refine (encode_ok v W hr.i1 hr.i2 hm).mono ?_
  rintro e w' ⟨T, rfl, ho, hg⟩
  rw [el]
  refine ⟨T, 8, rfl, ?_, hg⟩
  rw [e1]
  exact ho.toL
theorem enc_c (v : InV) (W : World) (hT : TabAt W) (hr : InRng v) (hm : Ru.mayT 2 v = true) :
    Calls Tryz.prog 61 #[.agg #[.int .i64 v.op, .int .i64 v.a, .int .i64 v.b, .int .i64 v.c, .int .i64 v.k, .int .i64 v.sub, .int .i64 v.scale, .int .i64 v.imm, .int .i64 v.label]] W fun e w' => ∃ T' c', e = .returned (.tuple #[.slice (some ⟨T', 0, none⟩) (Ru.encT 2 v).length c', .int .i64 0]) ∧ OwnL w' W.heap.size (.slice (some ⟨T', 0, none⟩) (Ru.encT 2 v).length c') (Ru.encT 2 v) ∧ W.grownBy w' none := by
  have hpos := (Ru.encT_len 2 v).1
  unfold Ru.mayT at hm
  rw [if_neg (by decide)] at hm
  have e1 : Ru.encT 2 v = Cc.enc v := by unfold Ru.encT; rw [if_neg (by decide)]
  refine (cencode_ok v W hT hr hm).mono ?_
  rintro e w' ⟨x, rfl, ho, hg⟩
  rw [e1] at hpos ⊢
  obtain ⟨T, c, rfl, _, _⟩ := own_slice ho.toB hpos
  exact ⟨T, c, rfl, ho, hg⟩
theorem enc_rn (v : InV) (W : World) (hr : InRng v) (hm : Ru.mayT 1 v = false) :
    Calls Tryz.prog 60 #[.agg #[.int .i64 v.op, .int .i64 v.a, .int .i64 v.b, .int .i64 v.c, .int .i64 v.k, .int .i64 v.sub, .int .i64 v.scale, .int .i64 v.imm, .int .i64 v.label]] W fun e w' => e = .returned (.tuple #[.slice none 0 0, .int .i64 30]) ∧ W.grownBy w' none := by
  unfold Ru.mayT at hm
  rw [if_pos rfl] at hm
  exact encode_no v W hr.i1 hr.i2 hm
theorem enc_cn (v : InV) (W : World) (hT : TabAt W) (hr : InRng v) (hm : Ru.mayT 2 v = false) :
    Calls Tryz.prog 61 #[.agg #[.int .i64 v.op, .int .i64 v.a, .int .i64 v.b, .int .i64 v.c, .int .i64 v.k, .int .i64 v.sub, .int .i64 v.scale, .int .i64 v.imm, .int .i64 v.label]] W fun e w' => e = .returned (.tuple #[.slice none 0 0, .int .i64 40]) ∧ W.grownBy w' none := by
  unfold Ru.mayT at hm
  rw [if_neg (by decide)] at hm
  exact cencode_no v W hT hr hm
end Go.Proofs.YtkiockffejlnhaaGreatDoor
