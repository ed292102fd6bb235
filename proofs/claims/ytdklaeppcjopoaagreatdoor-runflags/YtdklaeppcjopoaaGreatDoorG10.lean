/- Contracts and plain facts that the walks share, text by text: RuSc, RuSd. -/
import Derived.Test.YtdklaeppcjopoaaGreatDoorG8
import Derived.Test.YtdklaeppcjopoaaGreatDoorG9
import Derived.Test.YtdklaeppcjopoaaGreatDoorRuQe
import Derived.Test.YtdklaeppcjopoaaGreatDoorRuQf
import Derived.Test.YtdklaeppcjopoaaGreatDoorRuQg
import Derived.Test.YtdklaeppcjopoaaGreatDoorRuQh
import Derived.Test.YtdklaeppcjopoaaGreatDoorG4
/- The program's C64: a step, by the plain machine. -/
namespace Go.Proofs.YtdklaeppcjopoaaGreatDoor
open Go.RowKit
set_option linter.unusedVariables false

theorem c64_both {op : Int} {h : Pd} {w : World} {s s1 : Ru.St} (x : IsC w h s) (he : s1.e = 0) (a b c : Nat) (a16 : a < 16) (b16 : b < 16) (c16 : c < 16) (k sub sc lb imm : Int)
    (HF : Hid (∀ W, IsC W h s → Calls Tryz.prog 140 #[.pointer (some ⟨h.B, 0, none⟩), .func (.func 43) #[] #[]] W fun r w' => r = .returned (.agg #[.int .i64 op, .int .i64 a, .int .i64 b, .int .i64 c, .int .i64 k, .int .i64 sub, .int .i64 sc, .int .i64 imm, .int .i64 lb]) ∧ IsC w' h s1 ∧ Mc h W w'))
    (ho : op = 1 ∨ op = 3 ∨ op = 8 ∨ op = 11 ∨ op = 13 ∨ op = 19 ∨ op = 23 ∨ op = 24 ∨ op = 25 ∨ op = 26 ∨ op = 27 ∨ op = 28 ∨ op = 29) (hsc : op = 11 ∨ op = 13 → sc = 0) :
    Calls Tryz.prog 159 #[.pointer (some ⟨h.B, 0, none⟩)] w (BoP h w (.agg #[.int .i64 op, .int .i64 a, .int .i64 b, .int .i64 c, .int .i64 k, .int .i64 sub, .int .i64 sc, .int .i64 imm, .int .i64 lb]) (Ru.exec h.im ⟨op, a, b, c, k, sub, sc, imm, lb⟩ s1)) := by
  have HB := fun W (hW : IsC W h s1) => both_any hW he op a b c a16 b16 c16 k sub sc lb imm ho hsc
  have ne : ∀ n : Int, n = 4 ∨ n = 5 ∨ n = 6 ∨ n = 7 ∨ n = 10 ∨ n = 12 ∨ n = 14 ∨ n = 15 ∨ n = 16 ∨ n = 17 ∨ n = 18 ∨ n = 22 → (op == n) = false := fun n hn => by
    rw [beq_eq_false_iff_ne]; omega
  by_cases h5 : (Ru.exec h.im ⟨op, a, b, c, k, sub, sc, imm, lb⟩ s1).e = 5
  · exact BoP.no h5 (pcdn x op a b c a16 b16 c16 k sub sc lb imm HF (ne 4 (by omega)) (ne 5 (by omega)) (ne 6 (by omega)) (ne 7 (by omega)) (ne 10 (by omega)) (ne 12 (by omega)) (ne 14 (by omega)) (ne 15 (by omega)) (ne 16 (by omega)) (ne 17 (by omega)) (ne 18 (by omega)) (ne 22 (by omega)) (fun W hW => BoP.toNo (HB W hW) h5))
  · exact BoP.ok rfl h5 (pcd x op a b c a16 b16 c16 k sub sc lb imm HF _ (ne 4 (by omega)) (ne 5 (by omega)) (ne 6 (by omega)) (ne 7 (by omega)) (ne 10 (by omega)) (ne 12 (by omega)) (ne 14 (by omega)) (ne 15 (by omega)) (ne 16 (by omega)) (ne 17 (by omega)) (ne 18 (by omega)) (ne 22 (by omega)) (fun W hW => BoP.toOk (HB W hW) h5))

/-- an operation of two registers -/
theorem binary_any {h : Pd} {w : World} {s : Ru.St} (x : IsC w h s) (he : s.e = 0) (a b c : Nat) (a16 : a < 16) (b16 : b < 16) (k sub sc imm lb : Int) :
    Calls Tryz.prog 160 #[.pointer (some ⟨h.B, 0, none⟩), .agg #[.int .i64 4, .int .i64 a, .int .i64 b, .int .i64 c, .int .i64 k, .int .i64 sub, .int .i64 sc, .int .i64 imm, .int .i64 lb]] w (BoP h w (.tuple #[]) (s.bin 2 a sub k (s.r a) (s.r b))) := by
  obtain ⟨F, hF⟩ : ∃ F, Fl.binA sub k (Wd.canon k (s.r a)) (Wd.canon (Ru.ky sub k) (s.r b)) = F := ⟨_, rfl⟩
  obtain ⟨u, e⟩ := F
  by_cases hd : sub = 4 ∨ sub = 5
  · have hky : ∀ o : Int, o = 4 ∨ o = 5 → Ru.ky o k = k := fun o ho => by rcases ho with rfl | rfl <;> rfl
    obtain ⟨o, ho⟩ : ∃ o, (if sub = 4 then 5 else if sub = 5 then (4 : Int) else 0) = o := ⟨_, rfl⟩
    have ho' : o = 9 - sub ∧ (o = 4 ∨ o = 5) := by rcases hd with rfl | rfl <;> (simp at ho; omega)
    have ho0 : (o != 0) = true := by simp; omega
    by_cases h10 : k = 10
    · have hE : s.bin 2 a sub k (s.r a) (s.r b) = s.set a u e := by
        unfold Ru.St.bin
        rw [if_neg (fun hh => by rw [h10] at hh; exact absurd hh.2.1 (by decide)), hF]
      by_cases h0 : e = 0
      · subst h0
        exact BoP.ok (hE.trans (Ru.set_ok _ _ _ _ rfl)) (Ru.put_e he _ _) (pbinA x a b c a16 b16 k sub sc imm lb o ho (.inr ⟨ho0, by simpa using h10⟩) u hF)
      · exact BoP.no (by rw [hE, Ru.set_no _ _ _ _ h0]; exact Ru.stop5 he 0) (pbinAn x a b c a16 b16 k sub sc imm lb o ho (.inr ⟨ho0, by simpa using h10⟩) u e hF (bne0 h0))
    · have hk' : (k != 10) = true := by simpa using h10
      obtain ⟨F2, hG⟩ : ∃ F, Fl.binA o k (Wd.canon k (s.r a)) (Wd.canon (Ru.ky o k) (s.r b)) = F := ⟨_, rfl⟩
      obtain ⟨u2, e2⟩ := F2
      cases hi : Wd.intB k
      · -- no such operation
        have hn := Ru.div_none ho'.2 hi h10 (Wd.canon k (s.r a)) (Wd.canon (Ru.ky o k) (s.r b))
        have hn' := Ru.div_none hd hi h10 (Wd.canon k (s.r a)) (Wd.canon (Ru.ky sub k) (s.r b))
        rw [hG] at hn
        rw [hF] at hn'
        have hE : s.bin 2 a sub k (s.r a) (s.r b) = s.set a u e := by
          unfold Ru.St.bin
          rw [if_neg (fun hh => by rw [hi] at hh; exact absurd hh.2.1 (by decide)), hF]
        exact BoP.no (by rw [hE, Ru.set_no _ _ _ _ hn']; exact Ru.stop5 he 0) (pbinBn x a b c a16 b16 k sub sc imm lb o ho ho0 hk' u2 e2 hG (bne0 hn))
      · have hee : e2 = e := by
          have h45 := Ru.div_both hi (Wd.canon k (s.r a)) (Wd.canon k (s.r b))
          have h1 : (Fl.binA o k (Wd.canon k (s.r a)) (Wd.canon k (s.r b))).2 = e2 := by rw [hky o ho'.2] at hG; rw [hG]
          have h2 : (Fl.binA sub k (Wd.canon k (s.r a)) (Wd.canon k (s.r b))).2 = e := by rw [hky sub hd] at hF; rw [hF]
          rw [← h1, ← h2]
          rcases hd with rfl | rfl
          · rw [ho'.1]; exact h45.symm
          · rw [ho'.1]; exact h45
        subst hee
        have hE : s.bin 2 a sub k (s.r a) (s.r b) = (s.set 2 u2 e2).set a u e2 := by
          unfold Ru.St.bin
          rw [if_pos ⟨rfl, hi, hd⟩, hF]
          have : Fl.binA (9 - sub) k (Wd.canon k (s.r a)) (Wd.canon (Ru.ky sub k) (s.r b)) = (u2, e2) := by
            rw [← ho'.1, hky sub hd, ← hky o ho'.2]
            rw [hky o ho'.2] at hG ⊢
            exact hG
          rw [this]
        by_cases h0 : e2 = 0
        · subst h0
          exact BoP.ok (hE.trans (by rw [Ru.set_ok _ _ _ _ rfl, Ru.set_ok _ _ _ _ rfl])) (Ru.put_e (s := s.put 2 u2) he _ _) (pbinB x a b c a16 b16 k sub sc imm lb o ho ho0 hk' u u2 hF hG)
        · refine BoP.no ?_ (pbinBn x a b c a16 b16 k sub sc imm lb o ho ho0 hk' u2 e2 hG (bne0 h0))
          rw [hE, Ru.set_no _ _ _ _ h0, Ru.set_no _ _ _ _ h0, Ru.stop_e he]
          rfl
  · have ho : (if sub = 4 then 5 else if sub = 5 then (4 : Int) else 0) = 0 := by rw [if_neg (by omega), if_neg (by omega)]
    have hE : s.bin 2 a sub k (s.r a) (s.r b) = s.set a u e := by
      unfold Ru.St.bin
      rw [if_neg (fun hh => hd hh.2.2), hF]
    by_cases h0 : e = 0
    · subst h0
      exact BoP.ok (hE.trans (Ru.set_ok _ _ _ _ rfl)) (Ru.put_e he _ _) (pbinA x a b c a16 b16 k sub sc imm lb 0 ho (.inl rfl) u hF)
    · exact BoP.no (by rw [hE, Ru.set_no _ _ _ _ h0]; exact Ru.stop5 he 0) (pbinAn x a b c a16 b16 k sub sc imm lb 0 ho (.inl rfl) u e hF (bne0 h0))
theorem okF_says {s : Ru.St} {sub : Int} (h : s.okF sub = true) : s.says sub = ((Fl.binA sub s.k s.x s.y).1 == 1) := by unfold Ru.St.says; rw [h]; rfl
theorem okF_no {s : Ru.St} {sub : Int} (h : s.okF sub = false) : s.says sub = false := by unfold Ru.St.says; rw [h]; rfl
/-- what a comparison tells is 0 or 1 -/
theorem cmp01A {sub k x y : Int} (hc : Wd.cmpB sub = true) : (Fl.binA sub k x y).1 = 0 ∨ (Fl.binA sub k x y).1 = 1 := by
  have ht : ∀ b, Wd.tr b = 0 ∨ Wd.tr b = 1 := fun b => by cases b <;> simp [Wd.tr]
  have hcm : ∀ a b, Wd.cmpI sub a b = 0 ∨ Wd.cmpI sub a b = 1 := fun a b => by
    unfold Wd.cmpI
    repeat' split
    all_goals first | exact ht _ | exact .inl rfl
  have hsub : 11 ≤ sub ∧ sub ≤ 16 := by simpa [Wd.cmpB] using hc
  unfold Fl.binA
  split
  · unfold Fl.binF
    split
    · have : Fl.bf sub x y = Fl.cmpF sub x y := by
        unfold Fl.bf
        repeat' split
        all_goals first | rfl | omega
      rw [this]
      have := Fl.cmp01 sub x y
      dsimp only
      omega
    · exact .inl rfl
  · unfold Wd.binI
    have hu : Wd.bu sub k x y = Wd.cmpI sub x y := by
      unfold Wd.bu
      rw [if_neg (by omega), if_neg (by omega), if_neg (by omega), if_neg (by omega), if_neg (by omega), if_neg (by omega), if_neg (by omega), if_neg (by omega), if_neg (by omega), if_neg (by omega)]
    have hs : Wd.bs sub k x y = Wd.cmpI sub (Wd.sg x) (Wd.sg y) := by
      unfold Wd.bs
      rw [if_neg (by omega), if_neg (by omega), if_neg (by omega), if_pos (by omega)]
    rw [hu, hs]
    repeat' split
    all_goals first | exact .inl rfl | exact hcm _ _
end Go.Proofs.YtdklaeppcjopoaaGreatDoor

/- The program's C64: a step, by the plain machine, whole. -/
namespace Go.Proofs.YtdklaeppcjopoaaGreatDoor
open Go.RowKit
set_option linter.unusedVariables false

theorem cmp_sh {sub : Int} (h : Wd.cmpB sub = true) : Wd.shB sub = false := by
  have : 11 ≤ sub ∧ sub ≤ 16 := by simpa [Wd.cmpB] using h
  unfold Wd.shB
  have h9 : (sub == 9) = false := by simp; omega
  have h10 : (sub == 10) = false := by simp; omega
  rw [h9, h10]; rfl
set_option maxHeartbeats 2000000 in
theorem c64_any {v : InV} {h : Pd} {w : World} {s s1 : Ru.St} (x : IsC w h s) (he : s1.e = 0) (hr : ∀ i, Ru.W64 (s1.r i)) (fc : s1.Fc) (t2 : h.t = 2) (hm : Cc.mayB v = true)
    (HF : Hid (∀ W, IsC W h s → Calls Tryz.prog 140 #[.pointer (some ⟨h.B, 0, none⟩), .func (.func 43) #[] #[]] W fun r w' => r = .returned (.agg #[.int .i64 v.op, .int .i64 v.a, .int .i64 v.b, .int .i64 v.c, .int .i64 v.k, .int .i64 v.sub, .int .i64 v.scale, .int .i64 v.imm, .int .i64 v.label]) ∧ IsC w' h s1 ∧ Mc h W w')) :
    Calls Tryz.prog 159 #[.pointer (some ⟨h.B, 0, none⟩)] w (BoP h w (.agg #[.int .i64 v.op, .int .i64 v.a, .int .i64 v.b, .int .i64 v.c, .int .i64 v.k, .int .i64 v.sub, .int .i64 v.scale, .int .i64 v.imm, .int .i64 v.label]) (Ru.exec h.im v s1)) := by
  have R := Cc.rng hm
  have hc := Cc.codeOf R.rw
  obtain ⟨op, a', b', c', k, sub, sc, imm, lb⟩ := v
  obtain ⟨_, _, a1, a2, b1, b2, c1, c2, _, _, u2, _, _, _, _, kd⟩ := R
  dsimp only at hc u2 kd a1 a2 b1 b2 c1 c2 HF ⊢
  obtain ⟨a, rfl⟩ := Int.eq_ofNat_of_zero_le a1
  obtain ⟨b, rfl⟩ := Int.eq_ofNat_of_zero_le b1
  obtain ⟨c, rfl⟩ := Int.eq_ofNat_of_zero_le c1
  have a16 : a < 16 := by omega
  have b16 : b < 16 := by omega
  have c16 : c < 16 := by omega
  have hni : h.im.t = 2 := t2
  have hwi := Ru.wr_w imm
  by_cases hb : op = 1 ∨ op = 3 ∨ op = 8 ∨ op = 11 ∨ op = 13 ∨ op = 19 ∨ op = 23 ∨ op = 24 ∨ op = 25 ∨ op = 26 ∨ op = 27 ∨ op = 28 ∨ op = 29
  · refine c64_both x he a b c a16 b16 c16 k sub sc lb imm HF hb (fun h11 => ?_)
    rcases h11 with rfl | rfl
    all_goals exact (u2.resolve_left (by decide)).2
  · have hc' : op = 4 ∨ op = 5 ∨ op = 6 ∨ op = 7 ∨ op = 10 ∨ op = 12 ∨ op = 14 ∨ op = 15 ∨ op = 16 ∨ op = 17 ∨ op = 18 ∨ op = 22 := by omega
    clear hc hb
    rcases hc' with rfl | rfl | rfl | rfl | rfl | rfl | rfl | rfl | rfl | rfl | rfl | rfl
    · -- 4
      have hE : Ru.exec h.im ⟨4, a, b, c, k, sub, sc, imm, lb⟩ s1 = s1.bin 2 a sub k (s1.r a) (s1.r b) := by
        show (if h.im.t = 2 then s1.bin h.im.t a sub k (s1.reg a) (s1.reg b) else _) = _
        rw [if_pos hni, hni]
        rfl
      rw [hE]
      have HB := fun W (hW : IsC W h s1) => binary_any hW he a b c a16 b16 k sub sc imm lb
      by_cases h5 : (s1.bin 2 a sub k (s1.r a) (s1.r b)).e = 5
      · exact BoP.no h5 (pc4n x a b c a16 b16 c16 k sub sc lb imm HF (fun W hW => BoP.toNo (HB W hW) h5))
      · exact BoP.ok rfl h5 (pc4 x a b c a16 b16 c16 k sub sc lb imm HF _ (fun W hW => BoP.toOk (HB W hW) h5))
    · -- 5
      have hs : sub ≠ 4 ∧ sub ≠ 5 := by
        unfold Cc.kindB Cc.immB at kd
        simp only [] at kd
        simp at kd
        exact ⟨kd.1.1.1.2, kd.1.1.2⟩
      obtain ⟨F, hF⟩ : ∃ F, Fl.binA sub k (Wd.canon k (s1.r a)) (Wd.canon (Ru.ky sub k) (Ru.wr imm)) = F := ⟨_, rfl⟩
      have hE : Ru.exec h.im ⟨5, a, b, c, k, sub, sc, imm, lb⟩ s1 = s1.set a F.1 F.2 := by
        show s1.bin h.im.t a sub k (s1.reg a) (Ru.wr imm) = _
        unfold Ru.St.bin
        rw [if_neg (fun hh => by omega), ← hF]
        rfl
      obtain ⟨u, e⟩ := F
      by_cases h0 : e = 0
      · subst h0
        exact BoP.ok (hE.trans (Ru.set_ok _ _ _ _ rfl)) (Ru.put_e he _ _) (pc5 x a b c a16 b16 c16 k sub sc lb imm HF (hr a) hwi u hF)
      · exact BoP.no (by rw [hE, Ru.set_no _ _ _ _ h0]; exact Ru.stop5 he 0) (pc5n x a b c a16 b16 c16 k sub sc lb imm HF (hr a) hwi u e hF (bne0 h0))
    · -- 6
      obtain rfl : sc = 0 := (u2.resolve_left (by decide)).2
      have hs : ¬ (Wd.intB k = true ∧ (sub = 4 ∨ sub = 5)) := by
        unfold Cc.kindB at kd
        simp at kd
        rintro ⟨h1, h2⟩
        rcases kd.2 with h3 | h3
        · rw [h1] at h3; exact absurd h3 (by decide)
        · omega
      have hE : Ru.exec h.im ⟨6, a, b, c, k, sub, 0, imm, lb⟩ s1 = if Mm.lE h.S k (s1.adr ⟨6, a, b, c, k, sub, 0, imm, lb⟩) = 0 then s1.bin h.im.t a sub k (s1.r a) (Mm.lV h.S s1.m k (s1.adr ⟨6, a, b, c, k, sub, 0, imm, lb⟩)) else s1.stop 5 0 := rfl
      rw [Ru.adr0] at hE
      by_cases hl : Mm.lE h.S k (Ru.wr (s1.r b + imm)) = 0
      · rw [if_pos hl] at hE
        obtain ⟨yl, hy⟩ : ∃ y, Mm.lV h.S s1.m k (Ru.wr (s1.r b + imm)) = y := ⟨_, rfl⟩
        have hyw : Ru.W64 yl := by rw [← hy]; exact Ru.lv_w _ _ _ _
        rw [hy] at hE
        obtain ⟨F, hF⟩ : ∃ F, Fl.binA sub k (Wd.canon k (s1.r a)) (Wd.canon (Ru.ky sub k) yl) = F := ⟨_, rfl⟩
        have hE2 : s1.bin h.im.t a sub k (s1.r a) yl = s1.set a F.1 F.2 := by
          unfold Ru.St.bin
          rw [if_neg (fun hh => hs hh.2), ← hF]
        rw [hE2] at hE
        obtain ⟨u, e⟩ := F
        by_cases h0 : e = 0
        · subst h0
          exact BoP.ok (hE.trans (Ru.set_ok _ _ _ _ rfl)) (Ru.put_e he _ _) (pc6 x a b c a16 b16 c16 k sub 0 lb imm HF yl hy hl (hr a) hyw u hF)
        · exact BoP.no (by rw [hE, Ru.set_no _ _ _ _ h0]; exact Ru.stop5 he 0) (pc6m x a b c a16 b16 c16 k sub 0 lb imm HF yl hy hl (hr a) hyw u e hF (bne0 h0))
      · rw [if_neg hl] at hE
        exact BoP.no (by rw [hE]; exact Ru.stop5 he 0) (pc6n x a b c a16 b16 c16 k sub 0 lb imm HF (bne0 hl))
    · -- 7
      obtain ⟨F, hF⟩ : ∃ F, Wd.unI sub k (Wd.canon k (s1.r a)) = F := ⟨_, rfl⟩
      have hE : Ru.exec h.im ⟨7, a, b, c, k, sub, sc, imm, lb⟩ s1 = s1.set a F.1 F.2 := by
        show s1.set a (Wd.unI sub k (Wd.canon k (s1.reg (if h.im.t = 2 then (a : Int) else b)))).1 (Wd.unI sub k (Wd.canon k (s1.reg (if h.im.t = 2 then (a : Int) else b)))).2 = _
        rw [if_pos hni, ← hF]
        rfl
      obtain ⟨u, e⟩ := F
      by_cases h0 : e = 0
      · subst h0
        exact BoP.ok (hE.trans (Ru.set_ok _ _ _ _ rfl)) (Ru.put_e he _ _) (pc7 x a b c a16 b16 c16 k sub sc lb imm HF (hr a) u hF)
      · exact BoP.no (by rw [hE, Ru.set_no _ _ _ _ h0]; exact Ru.stop5 he 0) (pc7n x a b c a16 b16 c16 k sub sc lb imm HF (hr a) u e hF (bne0 h0))
    · -- 10
      exact BoP.ok rfl (Ru.put_e he _ _) (pc10 x a b c a16 b16 c16 k sub sc lb imm HF)
    · -- 12
      have hE : Ru.exec h.im ⟨12, a, b, c, k, sub, sc, imm, lb⟩ s1 = s1.set a (Mm.lV h.S s1.m k (s1.adr ⟨12, a, b, c, k, sub, sc, imm, lb⟩)) (Mm.lE h.S k (s1.adr ⟨12, a, b, c, k, sub, sc, imm, lb⟩)) := rfl
      by_cases h0 : Mm.lE h.S k (s1.adr ⟨12, a, b, c, k, sub, sc, imm, lb⟩) = 0
      · exact BoP.ok (hE.trans (Ru.set_ok _ _ _ _ h0)) (Ru.put_e he _ _) (pc12 x a b c a16 b16 c16 k sub sc lb imm HF _ rfl h0)
      · exact BoP.no (by rw [hE, Ru.set_no _ _ _ _ h0]; exact Ru.stop5 he 0) (pc12n x a b c a16 b16 c16 k sub sc lb imm HF (bne0 h0))
    · -- 14
      have hE : Ru.exec h.im ⟨14, a, b, c, k, sub, sc, imm, lb⟩ s1 = s1.lay h.S (s1.adr ⟨14, a, b, c, k, sub, sc, imm, lb⟩) k (s1.r a) := rfl
      by_cases h0 : Mm.lE h.S k (s1.adr ⟨14, a, b, c, k, sub, sc, imm, lb⟩) = 0
      · exact BoP.ok hE (Ru.lay_e he h0) (pc14 x a b c a16 b16 c16 k sub sc lb imm HF h0)
      · exact BoP.no (by rw [hE]; unfold Ru.St.lay; rw [if_neg h0]; exact Ru.stop5 he 0) (pc14n x a b c a16 b16 c16 k sub sc lb imm HF (bne0 h0))
    · -- 15
      have hcm : Wd.cmpB sub = true := kd
      have hE : Ru.exec h.im ⟨15, a, b, c, k, sub, sc, imm, lb⟩ s1 = if s1.says sub then s1.put a (s1.r b) else s1.ask sub := by
        show (if h.im.t = 2 then (if s1.says sub then s1.put a (s1.reg b) else s1.ask sub) else _) = _
        rw [if_pos hni]
        rfl
      cases ho : s1.okF sub
      · refine BoP.no ?_ (pc15n x a b c a16 b16 c16 k sub sc lb imm HF t2 fc (cmp_sh hcm) ho)
        rw [hE, okF_no ho, if_neg (by decide)]
        unfold Ru.St.ask
        rw [ho, if_neg (by decide)]
        exact Ru.stop5 he 0
      · have hak : s1.ask sub = s1 := by unfold Ru.St.ask; rw [ho, if_pos rfl]
        rw [hak, okF_says ho] at hE
        cases hz : ((Fl.binA sub s1.k s1.x s1.y).1 == 1)
        · rw [hz, if_neg (by decide)] at hE
          exact BoP.ok hE (Ru.st_e he) (pc15f x a b c a16 b16 c16 k sub sc lb imm HF t2 fc (cmp_sh hcm) ho _ rfl hz)
        · rw [hz, if_pos rfl] at hE
          exact BoP.ok hE (Ru.put_e he _ _) (pc15t x a b c a16 b16 c16 k sub sc lb imm HF t2 fc (cmp_sh hcm) ho _ rfl hz)
    · -- 16
      exact BoP.ok rfl (Ru.st_e he) (pc16 x a b c a16 b16 c16 k sub sc lb imm HF t2)
    · -- 17
      exact BoP.ok rfl (Ru.st_e he) (pc17 x a b c a16 b16 c16 k sub sc lb imm HF t2)
    · -- 18
      have hcm : Wd.cmpB sub = true := kd
      have hE : Ru.exec h.im ⟨18, a, b, c, k, sub, sc, imm, lb⟩ s1 = if s1.okF sub then s1.put a (if s1.says sub then 1 else 0) else s1.stop 5 0 := rfl
      cases ho : s1.okF sub
      · refine BoP.no ?_ (pc18n x a b c a16 b16 c16 k sub sc lb imm HF t2 fc (cmp_sh hcm) ho)
        rw [hE, ho, if_neg (by decide)]
        exact Ru.stop5 he 0
      · rw [ho, if_pos rfl, okF_says ho] at hE
        have h01 := cmp01A (k := s1.k) (x := s1.x) (y := s1.y) hcm
        have hV : (if ((Fl.binA sub s1.k s1.x s1.y).1 == 1) = true then (1 : Int) else 0) = (Fl.binA sub s1.k s1.x s1.y).1 := by
          rcases h01 with h0 | h0 <;> rw [h0] <;> rfl
        rw [hV] at hE
        exact BoP.ok hE (Ru.put_e he _ _) (pc18 x a b c a16 b16 c16 k sub sc lb imm HF t2 fc (cmp_sh hcm) ho _ rfl (Ru.bin_w _ _ _ _))
    · -- 22
      have hcm : Wd.cmpB sub = true := kd
      have hE : Ru.exec h.im ⟨22, a, b, c, k, sub, sc, imm, lb⟩ s1 = if s1.says sub then s1.goto (s1.pl + imm) else s1.ask sub := rfl
      cases ho : s1.okF sub
      · refine BoP.no ?_ (pc22n x a b c a16 b16 c16 k sub sc lb imm HF t2 fc (cmp_sh hcm) ho)
        rw [hE, okF_no ho, if_neg (by decide)]
        unfold Ru.St.ask
        rw [ho, if_neg (by decide)]
        exact Ru.stop5 he 0
      · have hak : s1.ask sub = s1 := by unfold Ru.St.ask; rw [ho, if_pos rfl]
        rw [hak, okF_says ho] at hE
        cases hz : ((Fl.binA sub s1.k s1.x s1.y).1 == 1)
        · rw [hz, if_neg (by decide)] at hE
          exact BoP.ok hE (Ru.st_e he) (pc22f x a b c a16 b16 c16 k sub sc lb imm HF t2 fc (cmp_sh hcm) ho _ rfl hz)
        · rw [hz, if_pos rfl] at hE
          exact BoP.ok hE (Ru.goto_e he _) (pc22t x a b c a16 b16 c16 k sub sc lb imm HF t2 fc (cmp_sh hcm) ho _ rfl hz)
end Go.Proofs.YtdklaeppcjopoaaGreatDoor
