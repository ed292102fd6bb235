/- Contracts and plain facts that the walks share. -/
import Derived.Test.YtkiockffejlnhaaGreatDoorG9
import Derived.Test.YtkiockffejlnhaaGreatDoorCdFits
import Derived.Test.YtkiockffejlnhaaGreatDoorCdWr
namespace Go.Proofs.YtkiockffejlnhaaGreatDoor
set_option maxRecDepth 100000
set_option maxHeartbeats 32000000
open Go.RowKit
set_option linter.unusedVariables false
namespace Cc
theorem cdec_err {N : Nat} {g : Nat → Int} (h : (rtell N g).2.2 ≠ 0) : cdec N g = rtell N g := by
 unfold cdec
 unfold rtell at h ⊢
 by_cases h0 : N = 0
 ·simp only [if_pos h0]
 simp only [if_neg h0] at h ⊢
 cases hr : (row (g 0)).isEmpty
 case true => rfl
 simp only [hr, Bool.false_eq_true, if_false] at h ⊢
 by_cases h1 : (cread N g).2 = 0
 ·simp only [if_pos h1]
 simp only [if_neg h1] at h ⊢
 by_cases h2 : (cread N g).2 < 0
 ·rw [if_pos (.inl h2), if_pos h2]
 ·rw [if_neg h2] at h
  exact absurd rfl h
theorem cdec_ok {N : Nat} {g : Nat → Int} (h : (rtell N g).2.2 = 0) (hf : fitsB (rtell N g).1 = true) : cdec N g = rtell N g := by
 unfold cdec
 unfold rtell at h hf ⊢
 by_cases h0 : N = 0
 ·simp only [if_pos h0]
 simp only [if_neg h0] at h hf ⊢
 cases hr : (row (g 0)).isEmpty
 case true => rfl
 simp only [hr, Bool.false_eq_true, if_false] at h hf ⊢
 by_cases h1 : (cread N g).2 = 0
 ·simp only [if_pos h1]
 simp only [if_neg h1] at h hf ⊢
 by_cases h2 : (cread N g).2 < 0
 ·rw [if_pos h2] at h; cases h
 rw [if_neg h2] at hf ⊢
 rw [if_neg]
 rintro (e | e)
 ·exact h2 e
 ·rw [show fitsB (cread N g).1 = true from hf] at e; cases e
theorem cdec_no {N : Nat} {g : Nat → Int} (h : (rtell N g).2.2 = 0) (hf : fitsB (rtell N g).1 = false) : cdec N g = (zero, 0, 40) := by
 unfold cdec
 unfold rtell at h hf
 by_cases h0 : N = 0
 ·rw [if_pos h0] at h; cases h
 rw [if_neg h0] at h hf
 rw [if_neg h0]
 cases hr : (row (g 0)).isEmpty
 case true => rfl
 rw [hr, if_neg (by decide)] at h hf
 rw [if_neg (by decide)]
 by_cases h1 : (cread N g).2 = 0
 ·rw [if_pos h1] at h; cases h
 rw [if_neg h1] at h hf
 rw [if_neg h1]
 by_cases h2 : (cread N g).2 < 0
 ·rw [if_pos h2] at h; cases h
 rw [if_neg h2] at hf
 rw [if_pos (.inr hf)]
end Cc
def ReadIs (w : World) (ao : Option Addr) (n cap : Nat) (X : InV) (T E : Int) : Prop :=
 ∀ W, w.grownBy W none → Calls Tryz.prog 58 #[.slice ao n cap] W fun e w' => e = .returned (.tuple #[.agg #[.int .i64 X.op, .int .i64 X.a, .int .i64 X.b, .int .i64 X.c, .int .i64 X.k, .int .i64 X.sub, .int .i64 X.scale, .int .i64 X.imm, .int .i64 X.label], .int .i64 T, .int .i64 E]) ∧ W.grownBy w' none
def FitsIs (X : InV) (b : Bool) : Prop :=
 ∀ W, Calls Tryz.prog 59 #[.agg #[.int .i64 X.op, .int .i64 X.a, .int .i64 X.b, .int .i64 X.c, .int .i64 X.k, .int .i64 X.sub, .int .i64 X.scale, .int .i64 X.imm, .int .i64 X.label]] W fun e w' => e = .returned (.bool b) ∧ W.grownBy w' none
theorem cdecode_no {w : World} {ao : Option Addr} {n cap : Nat} {X : InV} {T : Int} (hR : ReadIs w ao n cap X T 0) (hF : FitsIs X false) :
  Calls Tryz.prog 35 #[.slice ao n cap] w fun e w' => e = .returned (.tuple #[.agg #[.int .i64 0, .int .i64 0, .int .i64 0, .int .i64 0, .int .i64 0, .int .i64 0, .int .i64 0, .int .i64 0, .int .i64 0], .int .i64 0, .int .i64 40]) ∧ w.grownBy w' none := by
 go_enter Tryz.func35, Tryz.ntmps35
 go_wp2_with (first
  | (go_at_call 58; refine (hR _ gal).mono ?_; rintro e w1 ⟨rfl, g1⟩)
  | (go_at_call 59; refine (hF _).mono ?_; rintro e w2 ⟨rfl, g2⟩; have RS := (((InstAt.new w Cc.zero).kept g1 (by simp)).kept (World.grownBy_alloc w1 (Obj.cells #[.int .i64 X.op, .int .i64 X.a, .int .i64 X.b, .int .i64 X.c, .int .i64 X.k, .int .i64 X.sub, .int .i64 X.scale, .int .i64 X.imm, .int .i64 X.label] 50) none) (by simp)); have RS := RS.kept g2 (by simp); have RK := RS; have IX := (InstAt.new w1 X).kept g2 (by simp); have GG := gtr (ga (gtr gal g1) _) g2; obtain ⟨x0, x1, x2, x3, x4, x5, x6, x7, x8, xz⟩ := RS; obtain ⟨y0, y1, y2, y3, y4, y5, y6, y7, y8, yz⟩ := IX; have z0 := xz 0; have z1 := xz 1; have z2 := xz 2; have z3 := xz 3; have z4 := xz 4; have z5 := xz 5; have z6 := xz 6; have z7 := xz 7; have z8 := xz 8; clear xz yz))
 have P9 := RK.put9 Cc.zero
 have G9 := grown_put9 w2 w.heap.size Cc.zero
 change bodyPost _ _ _ _ _ (put9 w2 w.heap.size Cc.zero)
 generalize put9 w2 w.heap.size Cc.zero = W9 at *
 obtain ⟨r0, r1, r2, r3, r4, r5, r6, r7, r8, rz⟩ := P9
 simp only [Cc.zero] at r0 r1 r2 r3 r4 r5 r6 r7 r8
 refine bodyPost_ret (by simp [results, Tryz.results35, go_sem, r0, r1, r2, r3, r4, r5, r6, r7, r8]; try rfl) rfl ?_
 exact ⟨rfl, grown_newR GG G9 (Nat.le_refl _)⟩
theorem cdecode_ok {w : World} {ao : Option Addr} {n cap : Nat} {X : InV} {T : Int} (hR : ReadIs w ao n cap X T 0) (hF : FitsIs X true) :
  Calls Tryz.prog 35 #[.slice ao n cap] w fun e w' => e = .returned (.tuple #[.agg #[.int .i64 X.op, .int .i64 X.a, .int .i64 X.b, .int .i64 X.c, .int .i64 X.k, .int .i64 X.sub, .int .i64 X.scale, .int .i64 X.imm, .int .i64 X.label], .int .i64 T, .int .i64 0]) ∧ w.grownBy w' none := by
 go_enter Tryz.func35, Tryz.ntmps35
 go_wp2_with (first
  | (go_at_call 58; refine (hR _ gal).mono ?_; rintro e w1 ⟨rfl, g1⟩)
  | (go_at_call 59; refine (hF _).mono ?_; rintro e w2 ⟨rfl, g2⟩; have RS := (((InstAt.new w Cc.zero).kept g1 (by simp)).kept (World.grownBy_alloc w1 (Obj.cells #[.int .i64 X.op, .int .i64 X.a, .int .i64 X.b, .int .i64 X.c, .int .i64 X.k, .int .i64 X.sub, .int .i64 X.scale, .int .i64 X.imm, .int .i64 X.label] 50) none) (by simp)); have RS := RS.kept g2 (by simp); have RK := RS; have IX := (InstAt.new w1 X).kept g2 (by simp); have GG := gtr (ga (gtr gal g1) _) g2; obtain ⟨x0, x1, x2, x3, x4, x5, x6, x7, x8, xz⟩ := RS; obtain ⟨y0, y1, y2, y3, y4, y5, y6, y7, y8, yz⟩ := IX; have z0 := xz 0; have z1 := xz 1; have z2 := xz 2; have z3 := xz 3; have z4 := xz 4; have z5 := xz 5; have z6 := xz 6; have z7 := xz 7; have z8 := xz 8; clear xz yz))
 have P9 := RK.put9 X
 have G9 := grown_put9 w2 w.heap.size X
 change bodyPost _ _ _ _ _ (put9 w2 w.heap.size X)
 generalize put9 w2 w.heap.size X = W9 at *
 obtain ⟨r0, r1, r2, r3, r4, r5, r6, r7, r8, rz⟩ := P9
 refine bodyPost_ret (by simp [results, Tryz.results35, go_sem, r0, r1, r2, r3, r4, r5, r6, r7, r8]; try rfl) rfl ?_
 exact ⟨rfl, grown_newR GG G9 (Nat.le_refl _)⟩
theorem cdecode_err {w : World} {ao : Option Addr} {n cap : Nat} {X : InV} {T E : Int} (hR : ReadIs w ao n cap X T E) (hE : (E == 0) = false) :
  Calls Tryz.prog 35 #[.slice ao n cap] w fun e w' => e = .returned (.tuple #[.agg #[.int .i64 X.op, .int .i64 X.a, .int .i64 X.b, .int .i64 X.c, .int .i64 X.k, .int .i64 X.sub, .int .i64 X.scale, .int .i64 X.imm, .int .i64 X.label], .int .i64 T, .int .i64 E]) ∧ w.grownBy w' none := by
 go_enter Tryz.func35, Tryz.ntmps35
 go_wp2_with (first
  | (go_at_call 58; refine (hR _ gal).mono ?_; rintro e w1 ⟨rfl, g1⟩; have RS := (((InstAt.new w Cc.zero).kept g1 (by simp)).kept (World.grownBy_alloc w1 (Obj.cells #[.int .i64 X.op, .int .i64 X.a, .int .i64 X.b, .int .i64 X.c, .int .i64 X.k, .int .i64 X.sub, .int .i64 X.scale, .int .i64 X.imm, .int .i64 X.label] 50) none) (by simp)); have RK := RS; have IX := InstAt.new w1 X; have GG := ga (gtr gal g1) (Obj.cells #[.int .i64 X.op, .int .i64 X.a, .int .i64 X.b, .int .i64 X.c, .int .i64 X.k, .int .i64 X.sub, .int .i64 X.scale, .int .i64 X.imm, .int .i64 X.label] 50); generalize hW : w1.alloc (Obj.cells #[.int .i64 X.op, .int .i64 X.a, .int .i64 X.b, .int .i64 X.c, .int .i64 X.k, .int .i64 X.sub, .int .i64 X.scale, .int .i64 X.imm, .int .i64 X.label] 50) = w2 at *; obtain ⟨x0, x1, x2, x3, x4, x5, x6, x7, x8, xz⟩ := RS; obtain ⟨y0, y1, y2, y3, y4, y5, y6, y7, y8, yz⟩ := IX; have z0 := xz 0; have z1 := xz 1; have z2 := xz 2; have z3 := xz 3; have z4 := xz 4; have z5 := xz 5; have z6 := xz 6; have z7 := xz 7; have z8 := xz 8; clear xz yz))
 have P9 := RK.put9 X
 have G9 := grown_put9 w2 w.heap.size X
 change bodyPost _ _ _ _ _ (put9 w2 w.heap.size X)
 generalize put9 w2 w.heap.size X = W9 at *
 obtain ⟨r0, r1, r2, r3, r4, r5, r6, r7, r8, rz⟩ := P9
 refine bodyPost_ret (by simp [results, Tryz.results35, go_sem, r0, r1, r2, r3, r4, r5, r6, r7, r8]; try rfl) rfl ?_
 exact ⟨rfl, grown_newR GG G9 (Nat.le_refl _)⟩
theorem cdecode_any {w : World} {ao : Option Addr} {n cap : Nat} {g : Nat → Int} (h : BsIn w ao n cap g) :
  Calls Tryz.prog 35 #[.slice ao n cap] w fun e w' => e = .returned (.tuple #[.agg #[.int .i64 (Cc.dec n g).1.op, .int .i64 (Cc.dec n g).1.a, .int .i64 (Cc.dec n g).1.b, .int .i64 (Cc.dec n g).1.c, .int .i64 (Cc.dec n g).1.k, .int .i64 (Cc.dec n g).1.sub, .int .i64 (Cc.dec n g).1.scale, .int .i64 (Cc.dec n g).1.imm, .int .i64 (Cc.dec n g).1.label], .int .i64 (Cc.dec n g).2.1, .int .i64 (Cc.dec n g).2.2]) ∧ w.grownBy w' none := by
 rw [← Cc.cdec_eq h.fit]
 have HR : ReadIs w ao n cap (Cc.rtell n g).1 (Cc.rtell n g).2.1 (Cc.rtell n g).2.2 := fun W hW => read_any (h.kept hW)
 by_cases h1 : (Cc.rtell n g).2.2 = 0
 ·rw [h1] at HR
  cases h2 : Cc.fitsB (Cc.rtell n g).1
  ·rw [Cc.cdec_no h1 h2]
   exact cdecode_no HR (fun W => by rw [← h2]; exact cfits_any _ W)
  ·rw [Cc.cdec_ok h1 h2, h1]
   exact cdecode_ok HR (fun W => by rw [← h2]; exact cfits_any _ W)
 ·rw [Cc.cdec_err h1]
  exact cdecode_err HR (by rw [beq_eq_false_iff_ne]; exact h1)
namespace Cc
theorem letW_enc {L : Int} {v : InV} (s : List Int) (h : (99 : Int) ∉ s) : s.flatMap (letW L v) = s.flatMap (letB v) := by
  induction s with
  | nil => rfl
  | cons l s ih =>
    rw [List.flatMap_cons, List.flatMap_cons, ih (fun e => h (List.mem_cons_of_mem _ e))]
    have hl : l ≠ 99 := fun e => h (by rw [e]; exact List.mem_cons_self)
    unfold letW
    rw [if_neg hl]
theorem letW_log {v : InV} (l : Int) : letW (lg v.scale) v l = letB v l := by
  unfold letW
  by_cases e : l = 99
  · subst e; rw [if_pos rfl]; rfl
  · rw [if_neg e]
theorem wr_enc {v : InV} (h : mayB v = true) : wr (lgT v.scale) v = enc v := by
  have r := rng h
  have hc := codes r.rw
  have hl := log_is v.scale
  have hx : v.op = 10 ∨ v.op = 12 ∨ v.op = 14 ∨ (99 : Int) ∉ row v.op := by
    rcases hc with h | h | h | h | h | h | h | h | h | h | h | h | h | h | h | h | h | h | h | h | h | h | h | h | h
    all_goals first | exact .inl h | exact .inr (.inl h) | exact .inr (.inr (.inl h)) | (rw [h]; exact .inr (.inr (.inr (by decide))))
  have hs : (v.op = 10 ∨ v.op = 12 ∨ v.op = 14) → lgT v.scale = lg v.scale := by
    intro ho
    have hk := r.kd
    have hsc : sclB v = true := by
      rcases ho with ho | ho | ho
      · unfold kindB at hk
        rw [ho] at hk
        simpa using hk
      · unfold kindB at hk
        rw [ho] at hk
        have : (sclB v && Wd.wordB v.k) = true := by simpa using hk
        rw [Bool.and_eq_true] at this
        exact this.1
      · unfold kindB at hk
        rw [ho] at hk
        have : (sclB v && Wd.wordB v.k) = true := by simpa using hk
        rw [Bool.and_eq_true] at this
        exact this.1
    obtain ⟨l0, l1, l2, l4, l8⟩ := hl
    rcases scl_rng hsc with e | e | e | e | e
    · rw [l1 e, e]; rfl
    · rw [l2 e, e]; rfl
    · rw [l4 e, e]; rfl
    · rw [l8 e, e]; rfl
    · rw [l0 e, e]; rfl
  unfold wr enc
  by_cases ho : v.op = 10 ∨ v.op = 12 ∨ v.op = 14
  · rw [hs ho]
    congr 1
    exact congrArg (fun f => (row v.op).flatMap f) (funext letW_log)
  · rw [letW_enc _ (by rcases hx with a | a | a | a; · exact absurd (.inl a) ho
                       · exact absurd (.inr (.inl a)) ho
                       · exact absurd (.inr (.inr a)) ho
                       · exact a)]
def Byt (l : List Int) : Prop := ∀ x ∈ l, 0 ≤ x ∧ x < 256
theorem byt_fit {l : List Int} (h : Byt l) : Mm.Fit (fun i => l.getD i 0) := by
  intro i
  by_cases hi : i < l.length
  · have e : l.getD i 0 = l[i] := by simp [List.getD_eq_getElem?_getD, hi]
    show 0 ≤ l.getD i 0 ∧ l.getD i 0 < 256
    rw [e]
    exact h _ (List.getElem_mem hi)
  · have e : l.getD i 0 = 0 := by simp [List.getD_eq_getElem?_getD, List.getElem?_eq_none (Nat.le_of_not_lt hi)]
    show 0 ≤ l.getD i 0 ∧ l.getD i 0 < 256
    rw [e]; omega
theorem byt_low (n : Int) (c : Nat) : Byt (low n c) := by
  intro x hx
  unfold low at hx
  obtain ⟨i, _, rfl⟩ := List.mem_map.mp hx
  exact Mm.by8_rng _ _
theorem byt_one (x : Int) : Byt [x % 256] := by
  intro y hy
  rw [List.mem_singleton] at hy
  subst hy; omega
theorem byt_letB (v : InV) (l : Int) : Byt (letB v l) := by
  unfold letB
  repeat' split
  all_goals first | exact byt_one _ | exact byt_low _ _ | (intro x hx; cases hx)
theorem byt_letW (L : Int) (v : InV) (l : Int) : Byt (letW L v l) := by
  unfold letW
  split
  · exact byt_one _
  · exact byt_letB v l
theorem byt_wr (L : Int) (v : InV) : Byt (wr L v) := by
  intro x hx
  unfold wr at hx
  rcases List.mem_cons.mp hx with rfl | hx
  · omega
  · obtain ⟨l, _, hl⟩ := List.mem_flatMap.mp hx
    exact byt_letW L v l x hl
end Cc
theorem OwnL.grow {w w' : World} {base : Nat} {v : Value} {l : List Int} (h : OwnL w base v l) (hg : w.grownBy w' none) : OwnL w' base v l := h.kept hg (Classical.em _)
theorem OwnL.bsIn {w : World} {base : Nat} {v : Value} {l : List Int} (h : OwnL w base v l) (hf : Cc.Byt l) : ∃ ao cap, v = .slice ao l.length cap ∧ BsIn w ao l.length cap (fun i => l.getD i 0) := by
  obtain ⟨ao, cap, rfl, h1, h2, h3, h4⟩ := h.toB.shape
  refine ⟨ao, cap, rfl, ⟨h1, h2, h3, Cc.byt_fit hf, h4, fun b off h0 e => ?_⟩⟩
  subst e
  exact (World.ownsRow.lt h b rfl).2
structure InRng (v : InV) : Prop where
  i1 : -9223372036854775808 ≤ v.imm
  i2 : v.imm ≤ 9223372036854775807
  s1 : -9223372036854775808 ≤ v.scale
  s2 : v.scale ≤ 9223372036854775807
theorem cencode_ok0 (v X : InV) (T E : Int) (w : World) (S : List Int) (hS : Cc.wr (Cc.lgT v.scale) v = S) (hT : TabAt w) (hr : InRng v) (hD : Cc.dec S.length (fun i => S.getD i 0) = (X, T, E)) (hE : E = 0) (hX : X = v) :
    Calls Tryz.prog 61 #[inst v] w fun e w' => ∃ x, e = .returned (.tuple #[x, .int .i64 0]) ∧ OwnL w' w.heap.size x S ∧ w.grownBy w' none := by
  have HW : Hid (∀ W, TabAt W → Calls Tryz.prog 92 #[.agg #[.int .i64 v.op, .int .i64 v.a, .int .i64 v.b, .int .i64 v.c, .int .i64 v.k, .int .i64 v.sub, .int .i64 v.scale, .int .i64 v.imm, .int .i64 v.label]] W fun e w' => ∃ x, e = .returned x ∧ OwnL w' W.heap.size x S ∧ W.grownBy w' none) := fun W hW => by rw [← hS]; exact cwrite_any v W hW ⟨hr.i1, hr.i2⟩ ⟨hr.s1, hr.s2⟩
  have HT : Hid (TabAt w) := hT
  have HY : Hid (Cc.Byt S) := by rw [← hS]; exact Cc.byt_wr _ _
  have HC : Hid (∀ W ao cap, BsIn W ao S.length cap (fun i => S.getD i 0) → Calls Tryz.prog 35 #[.slice ao S.length cap] W fun e w' => e = .returned (.tuple #[.agg #[.int .i64 X.op, .int .i64 X.a, .int .i64 X.b, .int .i64 X.c, .int .i64 X.k, .int .i64 X.sub, .int .i64 X.scale, .int .i64 X.imm, .int .i64 X.label], .int .i64 T, .int .i64 E]) ∧ W.grownBy w' none) := fun W ao cap hW => by
    have := cdecode_any hW
    rw [hD] at this
    exact this
  clear hT hD hS hr
  subst hE hX
  unfold inst
  go_enter Tryz.func61, Tryz.ntmps61
  go_wp2_with (first
    | (go_at_call 92; refine (HW.out _ (HT.out.kept (World.grownBy_alloc _ _ none) (by simp))).mono ?_; rintro e w1 ⟨x, rfl, ho1, g1⟩; obtain ⟨ao, cap, rfl, hb1⟩ := ho1.bsIn HY.out)
    | (go_at_call 35; refine (HC.out _ _ _ hb1).mono ?_; rintro e w2 ⟨rfl, g2⟩; have IA := (((InstAt.new w X).kept g1 (by simp)).kept g2 (by simp)).kept (World.grownBy_alloc w2 (Obj.cells #[.int .i64 X.op, .int .i64 X.a, .int .i64 X.b, .int .i64 X.c, .int .i64 X.k, .int .i64 X.sub, .int .i64 X.scale, .int .i64 X.imm, .int .i64 X.label] 50) none) (by simp); obtain ⟨x0, x1, x2, x3, x4, x5, x6, x7, x8, xz⟩ := IA; clear xz))
  go_ret2
  refine ⟨_, rfl, ?_, ga (gtr (gtr gal g1) g2) _⟩
  exact ((ho1.grow g2).grow (World.grownBy_alloc _ _ none)).low (by simp)
theorem cencode_err0 (v X : InV) (T E : Int) (w : World) (S : List Int) (hS : Cc.wr (Cc.lgT v.scale) v = S) (hT : TabAt w) (hr : InRng v) (hD : Cc.dec S.length (fun i => S.getD i 0) = (X, T, E)) (hE : (E != 0) = true) :
    Calls Tryz.prog 61 #[inst v] w fun e w' => e = .returned (.tuple #[.slice none 0 0, .int .i64 40]) ∧ w.grownBy w' none := by
  have HW : Hid (∀ W, TabAt W → Calls Tryz.prog 92 #[.agg #[.int .i64 v.op, .int .i64 v.a, .int .i64 v.b, .int .i64 v.c, .int .i64 v.k, .int .i64 v.sub, .int .i64 v.scale, .int .i64 v.imm, .int .i64 v.label]] W fun e w' => ∃ x, e = .returned x ∧ OwnL w' W.heap.size x S ∧ W.grownBy w' none) := fun W hW => by rw [← hS]; exact cwrite_any v W hW ⟨hr.i1, hr.i2⟩ ⟨hr.s1, hr.s2⟩
  have HT : Hid (TabAt w) := hT
  have HY : Hid (Cc.Byt S) := by rw [← hS]; exact Cc.byt_wr _ _
  have HC : Hid (∀ W ao cap, BsIn W ao S.length cap (fun i => S.getD i 0) → Calls Tryz.prog 35 #[.slice ao S.length cap] W fun e w' => e = .returned (.tuple #[.agg #[.int .i64 X.op, .int .i64 X.a, .int .i64 X.b, .int .i64 X.c, .int .i64 X.k, .int .i64 X.sub, .int .i64 X.scale, .int .i64 X.imm, .int .i64 X.label], .int .i64 T, .int .i64 E]) ∧ W.grownBy w' none) := fun W ao cap hW => by
    have := cdecode_any hW
    rw [hD] at this
    exact this
  clear hT hD hS hr
  unfold inst
  go_enter Tryz.func61, Tryz.ntmps61
  go_wp2_with (first
    | (go_at_call 92; refine (HW.out _ (HT.out.kept (World.grownBy_alloc _ _ none) (by simp))).mono ?_; rintro e w1 ⟨x, rfl, ho1, g1⟩; obtain ⟨ao, cap, rfl, hb1⟩ := ho1.bsIn HY.out)
    | (go_at_call 35; refine (HC.out _ _ _ hb1).mono ?_; rintro e w2 ⟨rfl, g2⟩; have IA := (((InstAt.new w v).kept g1 (by simp)).kept g2 (by simp)).kept (World.grownBy_alloc w2 (Obj.cells #[.int .i64 X.op, .int .i64 X.a, .int .i64 X.b, .int .i64 X.c, .int .i64 X.k, .int .i64 X.sub, .int .i64 X.scale, .int .i64 X.imm, .int .i64 X.label] 50) none) (by simp); obtain ⟨x0, x1, x2, x3, x4, x5, x6, x7, x8, xz⟩ := IA; clear xz))
  go_ret2
  exact ⟨rfl, ga (gtr (gtr gal g1) g2) _⟩
theorem cencode_ne0 (v X : InV) (T E : Int) (w : World) (S : List Int) (hS : Cc.wr (Cc.lgT v.scale) v = S) (hT : TabAt w) (hr : InRng v) (hD : Cc.dec S.length (fun i => S.getD i 0) = (X, T, E)) (hE : E = 0) (hX : (¬ (X.op = v.op ∧ X.a = v.a ∧ X.b = v.b ∧ X.c = v.c ∧ X.k = v.k ∧ X.sub = v.sub ∧ X.scale = v.scale ∧ X.imm = v.imm ∧ X.label = v.label))) :
    Calls Tryz.prog 61 #[inst v] w fun e w' => e = .returned (.tuple #[.slice none 0 0, .int .i64 40]) ∧ w.grownBy w' none := by
  have HW : Hid (∀ W, TabAt W → Calls Tryz.prog 92 #[.agg #[.int .i64 v.op, .int .i64 v.a, .int .i64 v.b, .int .i64 v.c, .int .i64 v.k, .int .i64 v.sub, .int .i64 v.scale, .int .i64 v.imm, .int .i64 v.label]] W fun e w' => ∃ x, e = .returned x ∧ OwnL w' W.heap.size x S ∧ W.grownBy w' none) := fun W hW => by rw [← hS]; exact cwrite_any v W hW ⟨hr.i1, hr.i2⟩ ⟨hr.s1, hr.s2⟩
  have HT : Hid (TabAt w) := hT
  have HY : Hid (Cc.Byt S) := by rw [← hS]; exact Cc.byt_wr _ _
  have HC : Hid (∀ W ao cap, BsIn W ao S.length cap (fun i => S.getD i 0) → Calls Tryz.prog 35 #[.slice ao S.length cap] W fun e w' => e = .returned (.tuple #[.agg #[.int .i64 X.op, .int .i64 X.a, .int .i64 X.b, .int .i64 X.c, .int .i64 X.k, .int .i64 X.sub, .int .i64 X.scale, .int .i64 X.imm, .int .i64 X.label], .int .i64 T, .int .i64 E]) ∧ W.grownBy w' none) := fun W ao cap hW => by
    have := cdecode_any hW
    rw [hD] at this
    exact this
  clear hT hD hS hr
  subst hE
  have hcj : (X.op = v.op ∧ X.a = v.a ∧ X.b = v.b ∧ X.c = v.c ∧ X.k = v.k ∧ X.sub = v.sub ∧ X.scale = v.scale ∧ X.imm = v.imm ∧ X.label = v.label) = False := _root_.eq_false hX
  have hite : ∀ (p q : Prop) [Decidable p] [Decidable q] (x y : Result Next), (if p then if q then x else y else y) = if p ∧ q then x else y := fun p q _ _ x y => by by_cases hp : p <;> by_cases hq : q <;> simp [hp, hq]
  clear hX
  unfold inst
  go_enter Tryz.func61, Tryz.ntmps61
  go_wp2_with (first
    | (go_at_call 92; refine (HW.out _ (HT.out.kept (World.grownBy_alloc _ _ none) (by simp))).mono ?_; rintro e w1 ⟨x, rfl, ho1, g1⟩; obtain ⟨ao, cap, rfl, hb1⟩ := ho1.bsIn HY.out)
    | (go_at_call 35; refine (HC.out _ _ _ hb1).mono ?_; rintro e w2 ⟨rfl, g2⟩; have IA := (((InstAt.new w v).kept g1 (by simp)).kept g2 (by simp)).kept (World.grownBy_alloc w2 (Obj.cells #[.int .i64 X.op, .int .i64 X.a, .int .i64 X.b, .int .i64 X.c, .int .i64 X.k, .int .i64 X.sub, .int .i64 X.scale, .int .i64 X.imm, .int .i64 X.label] 50) none) (by simp); obtain ⟨x0, x1, x2, x3, x4, x5, x6, x7, x8, xz⟩ := IA; clear xz))
  go_ret2
  exact ⟨rfl, ga (gtr (gtr gal g1) g2) _⟩
theorem cencode_ok (v : InV) (w : World) (hT : TabAt w) (hr : InRng v) (hm : Cc.mayB v = true) :
    Calls Tryz.prog 61 #[inst v] w fun e w' => ∃ x, e = .returned (.tuple #[x, .int .i64 0]) ∧ OwnL w' w.heap.size x (Cc.enc v) ∧ w.grownBy w' none :=
  cencode_ok0 v v ((Cc.enc v).length : Int) 0 w (Cc.enc v) (Cc.wr_enc hm) hT hr (Cc.dec_enc hm hr.i1 hr.i2 (Nat.le_refl _) fun _ _ => rfl) rfl rfl
theorem cencode_no (v : InV) (w : World) (hT : TabAt w) (hr : InRng v) (hm : Cc.mayB v = false) :
    Calls Tryz.prog 61 #[inst v] w fun e w' => e = .returned (.tuple #[.slice none 0 0, .int .i64 40]) ∧ w.grownBy w' none := by
  obtain ⟨S, hS⟩ : ∃ S, Cc.wr (Cc.lgT v.scale) v = S := ⟨_, rfl⟩
  obtain ⟨X, T, E, hD⟩ : ∃ X T E, Cc.dec S.length (fun i => S.getD i 0) = (X, T, E) := ⟨_, _, _, rfl⟩
  by_cases hE : E = 0
  · refine cencode_ne0 v X T E w S hS hT hr hD hE fun hX => ?_
    subst hE
    have hX' : X = v := by
      obtain ⟨x1, x2, x3, x4, x5, x6, x7, x8, x9⟩ := X
      obtain ⟨v1, v2, v3, v4, v5, v6, v7, v8, v9⟩ := v
      dsimp only at hX
      obtain ⟨h1, h2, h3, h4, h5, h6, h7, h8, h9⟩ := hX
      rw [h1, h2, h3, h4, h5, h6, h7, h8, h9]
    have := (Cc.dec_ok hD).1
    rw [hX', hm] at this
    cases this
  · exact cencode_err0 v X T E w S hS hT hr hD (by simpa using hE)
end Go.Proofs.YtkiockffejlnhaaGreatDoor
