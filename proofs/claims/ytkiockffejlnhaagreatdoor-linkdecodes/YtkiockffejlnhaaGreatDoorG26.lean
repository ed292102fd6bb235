/- Contracts and plain facts that the walks share, text by text: LdNext, CfLeaf, CfUse, CfMay. -/
import Derived.Test.YtkiockffejlnhaaGreatDoorG24
import Derived.Test.YtkiockffejlnhaaGreatDoorG25
import Derived.Test.YtkiockffejlnhaaGreatDoorG14
import Derived.Test.YtkiockffejlnhaaGreatDoorRuRel
import Derived.Test.YtkiockffejlnhaaGreatDoorCdRow
import Derived.Test.YtkiockffejlnhaaGreatDoorG3
/- next: the instruction at a place of linked code. -/
namespace Go.Proofs.YtkiockffejlnhaaGreatDoor
open Go.RowKit
set_option linter.unusedVariables false
namespace Lk
theorem byt_encT (t : Int) (v : InV) : Cc.Byt (Ru.encT t v) := by
  unfold Ru.encT
  split
  · intro x hx
    obtain ⟨i, _, rfl⟩ := List.mem_map.1 hx
    exact Rc.enc_fit v i
  · exact Cc.byt_enc v
theorem bytA {l m : List Int} (h : Cc.Byt l) (k : Cc.Byt m) : Cc.Byt (l ++ m) := fun x hx => by
  rcases List.mem_append.1 hx with h1 | h1
  · exact h x h1
  · exact k x h1
theorem byt_codeP (t : Int) (V : Nat → PcV) (S : Nat → Nat → Int) (k : Nat) : ∀ i, Cc.Byt (codeP t V S k i)
  | 0 => fun x hx => by cases hx
  | i + 1 => bytA (byt_codeP t V S k i) (byt_encT _ _)
theorem byt_codeA (t : Int) (V : Nat → PcV) (S : Nat → Nat → Int) : ∀ k, Cc.Byt (codeA t V S k)
  | 0 => fun x hx => by cases hx
  | k + 1 => bytA (byt_codeA t V S k) (byt_codeP _ _ _ _ _)
theorem Lkd.at {t : Int} {K : Nat} {V : Nat → PcV} {Ls : Nat → Nat → Bool} (h : Lkd t K V Ls) {k : Nat} (hk : k < K) {i : Nat} (hi : i < (V k).n) :
    ∃ p : Nat, pos (ends V (SS t V Ls)) k + pos (SS t V Ls k) i = p ∧ p + (Ru.encT t (Lk.fin t V (SS t V Ls) k i)).length ≤ (codeA t V (SS t V Ls) K).length ∧ ∀ j, j < (Ru.encT t (Lk.fin t V (SS t V Ls) k i)).length → (codeA t V (SS t V Ls) K).getD (p + j) 0 = (Ru.encT t (Lk.fin t V (SS t V Ls) k i)).getD j 0 := by
  have h1 := h.lenA (k := k) (by omega)
  have h2 := h.lenP hk (i := i) (by omega)
  obtain ⟨s, hs⟩ := code_split (t := t) (K := K) (V := V) (S := SS t V Ls) hk hi
  refine ⟨(codeA t V (SS t V Ls) k ++ codeP t V (SS t V Ls) k i).length, ?_, ?_, fun j hj => ?_⟩
  · rw [List.length_append]; omega
  · rw [hs]; simp only [List.length_append]; omega
  · rw [hs, List.getD_eq_getElem?_getD, List.getElem?_append_right (by omega), Nat.add_sub_cancel_left, List.getElem?_append_left hj, List.getD_eq_getElem?_getD]
end Lk
theorem decR {w : World} {b off n cap : Nat} {g : Nat → Int} {v : InV} (hv : Rc.mayB v = true) (hnc : n ≤ cap) (hg : Mm.Fit g) (hc : ∀ i, i < n → w.cell? ⟨b, off + i, none⟩ = some (.int .u8 (g i))) (h8 : 8 ≤ n) (he : ∀ i, i < 8 → g i = Rc.enc v i) :
    Calls Tryz.prog 34 #[.slice (some ⟨b, off, none⟩) n cap] w fun e w' => e = .returned (.tuple #[.agg #[.int .i64 v.op, .int .i64 v.a, .int .i64 v.b, .int .i64 v.c, .int .i64 v.k, .int .i64 v.sub, .int .i64 v.scale, .int .i64 v.imm, .int .i64 v.label], .int .i64 8, .int .i64 0]) ∧ w.grownBy w' none := by
  have h1 := Rc.rd_congr he
  have h2 := Rc.back v hv
  have h3 := decode_ok b off n cap g w h8 hnc hg hc (by rw [h1.2]; exact Rc.ok_enc v hv)
  rw [h1.1, h2.1] at h3
  exact h3
theorem decC {w : World} {ao : Option Addr} {n cap : Nat} {g : Nat → Int} {v : InV} (h : BsIn w ao n cap g) (hv : Cc.mayB v = true) (hr : InRng v) (hn : (Cc.enc v).length ≤ n) (he : ∀ i, i < (Cc.enc v).length → g i = (Cc.enc v).getD i 0) :
    Calls Tryz.prog 35 #[.slice ao n cap] w fun e w' => e = .returned (.tuple #[.agg #[.int .i64 v.op, .int .i64 v.a, .int .i64 v.b, .int .i64 v.c, .int .i64 v.k, .int .i64 v.sub, .int .i64 v.scale, .int .i64 v.imm, .int .i64 v.label], .int .i64 ((Cc.enc v).length : Int), .int .i64 0]) ∧ w.grownBy w' none := by
  have h1 := cdecode_any h
  rw [Cc.dec_enc hv hr.i1 hr.i2 hn he] at h1
  exact h1
def RelN (RB : Nat) (v : InV) (w w' : World) : Prop := Ch w w' [RB] ∧ (InstAt w RB v → InstAt w' RB v) ∧ ((∃ u, InstAt w RB u) → ∃ u, InstAt w' RB u)
theorem RelN.refl {RB : Nat} {v : InV} (w : World) : RelN RB v w w := ⟨Ch.refl _ _, id, id⟩
theorem RelN.trans {RB : Nat} {v : InV} {w w1 w2 : World} (h : RelN RB v w w1) (k : RelN RB v w1 w2) : RelN RB v w w2 := ⟨h.1.trans k.1, fun x => k.2.1 (h.2.1 x), fun x => k.2.2 (h.2.2 x)⟩
theorem RelN.put {RB : Nat} {v u : InV} {w : World} (h : InstAt w RB u) : RelN RB v w (put9 w RB v) := ⟨Ch.one (grown_put9 _ _ _) (by simp), fun _ => h.put9 v, fun _ => ⟨v, h.put9 v⟩⟩
def psiN (v : InV) (ln : Int) (RB : Nat) : Nat → Value → World → Prop
  | 0, x, _ => x = .agg #[.int .i64 v.op, .int .i64 v.a, .int .i64 v.b, .int .i64 v.c, .int .i64 v.k, .int .i64 v.sub, .int .i64 v.scale, .int .i64 v.imm, .int .i64 v.label]
  | 1, x, _ => x = .int .i64 ln
  | 2, x, _ => x = .int .i64 0
  | 3, x, _ => x = .int .i64 0
  | 4, x, _ => x = .bool true
  | 5, _, w => InstAt w RB v
  | _, x, _ => x = .int .i64 ln
theorem psiN_stable {v : InV} {ln : Int} {RB i : Nat} {x : Value} {w w' : World} (h : psiN v ln RB i x w) (g : RelN RB v w w') : psiN v ln RB i x w' := by
  unfold psiN at h ⊢
  split at h
  all_goals first
    | exact h
    | exact g.2.1 h
-- next, target 1
set_option maxRecDepth 100000 in
set_option maxHeartbeats 8000000 in
theorem next_r {w : World} {T n cap p : Nat} {g : Nat → Int} {v : InV} {dv fv : Value} {en : Int} (hc : ∀ i, i < n → w.cell? ⟨T, i, none⟩ = some (.int .u8 (g i))) (hg : Mm.Fit g) (hn : n ≤ cap) (hcap : cap ≤ maxLen) (hnm : (n : Int) ≤ 1048576) (hv : Rc.mayB v = true) (hp : p + 8 ≤ n) (he : ∀ i, i < 8 → g (p + i) = Rc.enc v i) :
    Calls Tryz.prog 17 #[.agg #[.int .i64 1, .slice (some ⟨T, 0, none⟩) n cap, dv, .int .i64 en, fv], .int .i64 p] w fun e w' => e = .returned (.tuple #[.agg #[.int .i64 v.op, .int .i64 v.a, .int .i64 v.b, .int .i64 v.c, .int .i64 v.k, .int .i64 v.sub, .int .i64 v.scale, .int .i64 v.imm, .int .i64 v.label], .int .i64 8, .bool true]) ∧ w.grownBy w' none := by
  have hpn : p < n := by omega
  have hpn' : (p : Int) < n := by omega
  have hcp : ¬ cap = p := by omega
  have hcp2 : p ≤ cap := by omega
  unfold maxLen at hcap
  obtain ⟨W2, hW2⟩ : ∃ W2, W2 = (w.alloc (.cells #[.int .i64 1, .slice (some ⟨T, 0, none⟩) n cap, dv, .int .i64 en, fv] 32)).alloc (.cells #[.int .i64 0, .int .i64 0, .int .i64 0, .int .i64 0, .int .i64 0, .int .i64 0, .int .i64 0, .int .i64 0, .int .i64 0] 50) := ⟨_, rfl⟩
  have hg2 : w.grownBy W2 none := by rw [hW2]; exact ga (World.grownBy_alloc _ _ _) _
  have IR2 : InstAt W2 (w.heap.size + 1) zeroI := by
    have := InstAt.new (w.alloc (.cells #[.int .i64 1, .slice (some ⟨T, 0, none⟩) n cap, dv, .int .i64 en, fv] 32)) zeroI
    rw [hW2]
    simpa [zeroI] using this
  have HIR : Hid (InstAt W2 (w.heap.size + 1) zeroI) := IR2
  have HCp : Hid (Calls Tryz.prog 7 #[.slice (some ⟨T, p, none⟩) (n - p) (cap - p)] W2 fun e w' => ∃ T' c', e = .returned (.slice (some ⟨T', 0, none⟩) (n - p) c') ∧ OwnB w' W2.heap.size (.slice (some ⟨T', 0, none⟩) (n - p) c') (n - p) (fun i => g (p + i)) ∧ W2.grownBy w' none) :=
    (copyB (n - p) (cap - p) _ (fun i => g (p + i)) W2 (by omega) (fun h => by cases h) (.inr ⟨T, p, rfl, fun i hi => hg2.cell (hc (p + i) (by omega)) (by simp)⟩)).mono fun e w' ⟨x, hx, ho, hg'⟩ => by
      obtain ⟨T', c', rfl, _⟩ := own_slice ho (by omega)
      exact ⟨T', c', hx, ho, hg'⟩
  have HDc : Hid (∀ W T' c', OwnB W W2.heap.size (.slice (some ⟨T', 0, none⟩) (n - p) c') (n - p) (fun i => g (p + i)) → Calls Tryz.prog 34 #[.slice (some ⟨T', 0, none⟩) (n - p) c'] W fun e w' => e = .returned (.tuple #[.agg #[.int .i64 v.op, .int .i64 v.a, .int .i64 v.b, .int .i64 v.c, .int .i64 v.k, .int .i64 v.sub, .int .i64 v.scale, .int .i64 v.imm, .int .i64 v.label], .int .i64 8, .int .i64 0]) ∧ W.grownBy w' none) := fun W T' c' ho => by
    obtain ⟨ao, cap', hx, h0, h1, h2, h3⟩ := ho.shape
    injection hx with e1 e2 e3
    subst e1 e3
    rcases h3 with h3 | ⟨b, off, e, hcc⟩
    · omega
    · injection e with e
      injection e with e4 e5
      subst e4 e5
      exact decR hv h1 (fun i => hg (p + i)) hcc (by omega) he
  have HG2 : Hid (w.grownBy W2 none) := hg2
  have HW2 : Hid (W2 = (w.alloc (.cells #[.int .i64 1, .slice (some ⟨T, 0, none⟩) n cap, dv, .int .i64 en, fv] 32)).alloc (.cells #[.int .i64 0, .int .i64 0, .int .i64 0, .int .i64 0, .int .i64 0, .int .i64 0, .int .i64 0, .int .i64 0, .int .i64 0] 50)) := hW2
  have hs2 : W2.heap.size = w.heap.size + 2 := by rw [hW2]; simp
  clear hc hg he hv hp IR2 hW2 hg2
  obtain ⟨ln, hln⟩ : ∃ ln : Int, ln = 8 := ⟨_, rfl⟩
  rw [← hln] at HDc ⊢
  clear hln
  go_enter Tryz.func17, Tryz.ntmps17
  go_wp2_with (first
    | (go_at_call 7; rw [← HW2.out]; refine HCp.out.mono ?_; rintro e w3 ⟨T', c', rfl, ho3, hg3⟩; have HO3 : Hid (OwnB w3 W2.heap.size (.slice (some ⟨T', 0, none⟩) (n - p) c') (n - p) (fun i => g (p + i))) := ho3; have HG3 : Hid (W2.grownBy w3 none) := hg3; clear ho3 hg3)
    | (go_at_call 34; refine (HDc.out _ _ _ HO3.out).mono ?_; rintro e w4 ⟨rfl, hg4⟩; have HG4 : Hid (w3.grownBy w4 none) := hg4; clear hg4))
  obtain ⟨W5, hW5⟩ : ∃ W5, W5 = w4.alloc (.cells #[.int .i64 v.op, .int .i64 v.a, .int .i64 v.b, .int .i64 v.c, .int .i64 v.k, .int .i64 v.sub, .int .i64 v.scale, .int .i64 v.imm, .int .i64 v.label] 50) := ⟨_, rfl⟩
  obtain ⟨B5, hB5⟩ : ∃ B5, B5 = w4.heap.size := ⟨_, rfl⟩
  have I5 : InstAt W5 B5 v := by rw [hW5, hB5]; exact InstAt.new _ _
  have HG5 : Hid (W2.grownBy W5 none) := by rw [hW5]; exact ga (grown_trans HG3.out HG4.out) _
  have HI5 : Hid (InstAt W5 (w.heap.size + 1) zeroI) := HIR.out.kept HG5.out (by simp)
  have hBR : ¬ B5 = w.heap.size + 1 := by have := HG3.out.size; have := HG4.out.size; omega
  rw [← hW5, ← hB5]
  clear hW5 hB5
  have y0 := I5.c0
  have y1 := I5.c1
  have y2 := I5.c2
  have y3 := I5.c3
  have y4 := I5.c4
  have y5 := I5.c5
  have y6 := I5.c6
  have y7 := I5.c7
  have y8 := I5.c8
  clear I5
  have HGD : Hid (w.grownBy W5.drew none) := grown_drew (grown_trans HG2.out HG5.out)
  have HID : Hid (InstAt W5.drew (w.heap.size + 1) zeroI) := HI5.out.kept (grown_drew (World.grownBy.refl _ none)) (by simp)
  have hD5 : W5.grownBy W5.drew none := grown_drew (World.grownBy.refl _ none)
  refine region_rel (RelN (w.heap.size + 1) v) RelN.trans RelN.refl 7 (psiN v ln (w.heap.size + 1)) (by kernel_rfl) (by kernel_rfl) (by kernel_rfl) (by kernel_rfl) (fun i x w0 w1 hi h g => psiN_stable h g) ?_ ?_
  · simp only [List.take_succ_cons, List.take_zero]
    refine ⟨?_, ?_, ?_, ?_, ?_, ?_, ?_, trivial⟩
    · intro VV W0 AA g hV hs hz
      have gD : Ch W5 W0 [w.heap.size + 1] := (Ch.of hD5).trans g.1
      have e0 := hz 7 (.pointer (some ⟨B5, 0, none⟩)) (by kernel_rfl) rfl
      have x0 := gD.cell y0 (by simpa using hBR)
      have x1 := gD.cell y1 (by simpa using hBR)
      have x2 := gD.cell y2 (by simpa using hBR)
      have x3 := gD.cell y3 (by simpa using hBR)
      have x4 := gD.cell y4 (by simpa using hBR)
      have x5 := gD.cell y5 (by simpa using hBR)
      have x6 := gD.cell y6 (by simpa using hBR)
      have x7 := gD.cell y7 (by simpa using hBR)
      have x8 := gD.cell y8 (by simpa using hBR)
      clear hV hs hz
      refine outR_val (v := .agg #[.int .i64 v.op, .int .i64 v.a, .int .i64 v.b, .int .i64 v.c, .int .i64 v.k, .int .i64 v.sub, .int .i64 v.scale, .int .i64 v.imm, .int .i64 v.label]) (w' := W0) (by kernel_rfl) ?_ (RelN.refl _) rfl
      simp [go_sem, e0, x0, x1, x2, x3, x4, x5, x6, x7, x8]
    · intro VV W0 AA g hV hs hz
      have e0 := hz 8 (.int .i64 ln) (by kernel_rfl) rfl
      clear hV hs hz
      refine outR_val (v := .int .i64 ln) (w' := W0) (by kernel_rfl) ?_ (RelN.refl _) rfl
      simp [go_sem, e0]
    · intro VV W0 AA g hV hs hz
      have e0 := hz 9 (.int .i64 0) (by kernel_rfl) rfl
      clear hV hs hz
      refine outR_val (v := .int .i64 0) (w' := W0) (by kernel_rfl) ?_ (RelN.refl _) rfl
      simp [go_sem, e0]
    · intro VV W0 AA g hV hs hz
      have q2 : VV 2 = .int .i64 0 := hV 2 (by kernel_rfl)
      have e2 := hs 38 2 (by kernel_rfl) (by kernel_rfl)
      clear hV hs hz
      refine outR_call (f := 12) (by kernel_rfl) ?_ ((num6_any 0 W0).mono fun e w2 ⟨he, hg⟩ => ⟨_, he, hg ▸ RelN.refl _, rfl⟩)
      simp [go_sem, q2, e2]
    · intro VV W0 AA g hV hs hz
      have q3 : VV 3 = .int .i64 0 := hV 3 (by kernel_rfl)
      have e3 := hs 39 3 (by kernel_rfl) (by kernel_rfl)
      clear hV hs hz
      refine outR_val (v := .bool true) (w' := W0) (by kernel_rfl) ?_ (RelN.refl _) rfl
      simp [go_sem, q3, e3]
    · intro VV W0 AA g hV hs hz
      have q0 : VV 0 = .agg #[.int .i64 v.op, .int .i64 v.a, .int .i64 v.b, .int .i64 v.c, .int .i64 v.k, .int .i64 v.sub, .int .i64 v.scale, .int .i64 v.imm, .int .i64 v.label] := hV 0 (by kernel_rfl)
      have e0 := hs 36 0 (by kernel_rfl) (by kernel_rfl)
      have e4 := hz 4 (.pointer (some ⟨w.heap.size + 1, 0, none⟩)) (by kernel_rfl) rfl
      obtain ⟨u, hu⟩ := g.2.2 ⟨_, HID.out⟩
      clear hV hs hz
      have hu' := hu
      obtain ⟨z0, z1, z2, z3, z4, z5, z6, z7, z8, zz⟩ := hu
      refine outR_skip (w' := put9 W0 (w.heap.size + 1) v) ?_ (RelN.put hu') (hu'.put9 v)
      have f0 := zz 0
      have f1 := zz 1
      have f2 := zz 2
      have f3 := zz 3
      have f4 := zz 4
      have f5 := zz 5
      have f6 := zz 6
      have f7 := zz 7
      have f8 := zz 8
      simp [go_sem, q0, e0, e4, put9, z0, z1, z2, z3, z4, z5, z6, z7, z8, f0, f1, f2, f3, f4, f5, f6, f7, f8]
    · intro VV W0 AA g hV hs hz
      have q1 : VV 1 = .int .i64 ln := hV 1 (by kernel_rfl)
      have e1 := hs 37 1 (by kernel_rfl) (by kernel_rfl)
      clear hV hs hz
      refine outR_val (v := .int .i64 ln) (w' := W0) (by kernel_rfl) ?_ (RelN.refl _) rfl
      simp [go_sem, q1, e1]
  · intro VV W0 g hV
    have h0 : VV 0 = .agg #[.int .i64 v.op, .int .i64 v.a, .int .i64 v.b, .int .i64 v.c, .int .i64 v.k, .int .i64 v.sub, .int .i64 v.scale, .int .i64 v.imm, .int .i64 v.label] := hV 0 (by decide)
    have h1 : VV 1 = .int .i64 ln := hV 1 (by decide)
    have h2 : VV 2 = .int .i64 0 := hV 2 (by decide)
    have h3 : VV 3 = .int .i64 0 := hV 3 (by decide)
    have h4 : VV 4 = .bool true := hV 4 (by decide)
    have h6 : VV 6 = .int .i64 ln := hV 6 (by decide)
    have IR : InstAt W0 (w.heap.size + 1) v := hV 5 (by decide)
    have HGF : Hid (w.grownBy W0 none) := ((Ch.of HGD.out).trans g.1).nil (by simp)
    simp [frV, dstOf, Act.put, h0, h1, h2, h3, h4, h6]
    clear h0 h1 h2 h3 h4 h6 hV g y0 y1 y2 y3 y4 y5 y6 y7 y8
    go_wp2_with fail
    obtain ⟨q0, q1, q2, q3, q4, q5, q6, q7, q8, _⟩ := IR
    refine bodyPost_ret (by simp [results, Tryz.results17, go_sem, q0, q1, q2, q3, q4, q5, q6, q7, q8]; try rfl) rfl ?_
    exact ⟨rfl, HGF.out⟩
-- next, target 2
set_option maxRecDepth 100000 in
set_option maxHeartbeats 8000000 in
theorem next_c {w : World} {T n cap p : Nat} {g : Nat → Int} {v : InV} {dv fv : Value} {en : Int} (hc : ∀ i, i < n → w.cell? ⟨T, i, none⟩ = some (.int .u8 (g i))) (hg : Mm.Fit g) (hn : n ≤ cap) (hcap : cap ≤ maxLen) (hnm : (n : Int) ≤ 1048576) (hv : Cc.mayB v = true) (hr : InRng v) (hp : p + (Cc.enc v).length ≤ n) (he : ∀ i, i < (Cc.enc v).length → g (p + i) = (Cc.enc v).getD i 0) :
    Calls Tryz.prog 17 #[.agg #[.int .i64 2, .slice (some ⟨T, 0, none⟩) n cap, dv, .int .i64 en, fv], .int .i64 p] w fun e w' => e = .returned (.tuple #[.agg #[.int .i64 v.op, .int .i64 v.a, .int .i64 v.b, .int .i64 v.c, .int .i64 v.k, .int .i64 v.sub, .int .i64 v.scale, .int .i64 v.imm, .int .i64 v.label], .int .i64 ((Cc.enc v).length : Int), .bool true]) ∧ w.grownBy w' none := by
  have hl1 := Cc.enc_pos v
  have hpn : p < n := by omega
  have hpn' : (p : Int) < n := by omega
  have hcp : ¬ cap = p := by omega
  have hcp2 : p ≤ cap := by omega
  unfold maxLen at hcap
  obtain ⟨W2, hW2⟩ : ∃ W2, W2 = (w.alloc (.cells #[.int .i64 2, .slice (some ⟨T, 0, none⟩) n cap, dv, .int .i64 en, fv] 32)).alloc (.cells #[.int .i64 0, .int .i64 0, .int .i64 0, .int .i64 0, .int .i64 0, .int .i64 0, .int .i64 0, .int .i64 0, .int .i64 0] 50) := ⟨_, rfl⟩
  have hg2 : w.grownBy W2 none := by rw [hW2]; exact ga (World.grownBy_alloc _ _ _) _
  have IR2 : InstAt W2 (w.heap.size + 1) zeroI := by
    have := InstAt.new (w.alloc (.cells #[.int .i64 2, .slice (some ⟨T, 0, none⟩) n cap, dv, .int .i64 en, fv] 32)) zeroI
    rw [hW2]
    simpa [zeroI] using this
  have HIR : Hid (InstAt W2 (w.heap.size + 1) zeroI) := IR2
  have HCp : Hid (Calls Tryz.prog 7 #[.slice (some ⟨T, p, none⟩) (n - p) (cap - p)] W2 fun e w' => ∃ T' c', e = .returned (.slice (some ⟨T', 0, none⟩) (n - p) c') ∧ OwnB w' W2.heap.size (.slice (some ⟨T', 0, none⟩) (n - p) c') (n - p) (fun i => g (p + i)) ∧ W2.grownBy w' none) :=
    (copyB (n - p) (cap - p) _ (fun i => g (p + i)) W2 (by omega) (fun h => by cases h) (.inr ⟨T, p, rfl, fun i hi => hg2.cell (hc (p + i) (by omega)) (by simp)⟩)).mono fun e w' ⟨x, hx, ho, hg'⟩ => by
      obtain ⟨T', c', rfl, _⟩ := own_slice ho (by omega)
      exact ⟨T', c', hx, ho, hg'⟩
  have HDc : Hid (∀ W T' c', OwnB W W2.heap.size (.slice (some ⟨T', 0, none⟩) (n - p) c') (n - p) (fun i => g (p + i)) → Calls Tryz.prog 35 #[.slice (some ⟨T', 0, none⟩) (n - p) c'] W fun e w' => e = .returned (.tuple #[.agg #[.int .i64 v.op, .int .i64 v.a, .int .i64 v.b, .int .i64 v.c, .int .i64 v.k, .int .i64 v.sub, .int .i64 v.scale, .int .i64 v.imm, .int .i64 v.label], .int .i64 ((Cc.enc v).length : Int), .int .i64 0]) ∧ W.grownBy w' none) := fun W T' c' ho => by
    obtain ⟨ao, cap', hx, h0, h1, h2, h3⟩ := ho.shape
    injection hx with e1 e2 e3
    subst e1 e3
    rcases h3 with h3 | ⟨b, off, e, hcc⟩
    · omega
    · injection e with e
      injection e with e4 e5
      subst e4 e5
      exact decC ⟨(fun h => by cases h), h1, h2, fun i => hg (p + i), .inr ⟨_, 0, rfl, hcc⟩, (fun b off h0 e => by injection e with e; injection e with e; subst e; exact (World.ownsRow.lt ho _ rfl).2)⟩ hv hr (by omega) he
  have HG2 : Hid (w.grownBy W2 none) := hg2
  have HW2 : Hid (W2 = (w.alloc (.cells #[.int .i64 2, .slice (some ⟨T, 0, none⟩) n cap, dv, .int .i64 en, fv] 32)).alloc (.cells #[.int .i64 0, .int .i64 0, .int .i64 0, .int .i64 0, .int .i64 0, .int .i64 0, .int .i64 0, .int .i64 0, .int .i64 0] 50)) := hW2
  have hs2 : W2.heap.size = w.heap.size + 2 := by rw [hW2]; simp
  clear hc hg he hv hp IR2 hW2 hg2 hr hl1
  obtain ⟨ln, hln⟩ : ∃ ln : Int, ln = ((Cc.enc v).length : Int) := ⟨_, rfl⟩
  rw [← hln] at HDc ⊢
  clear hln
  go_enter Tryz.func17, Tryz.ntmps17
  go_wp2_with (first
    | (go_at_call 7; rw [← HW2.out]; refine HCp.out.mono ?_; rintro e w3 ⟨T', c', rfl, ho3, hg3⟩; have HO3 : Hid (OwnB w3 W2.heap.size (.slice (some ⟨T', 0, none⟩) (n - p) c') (n - p) (fun i => g (p + i))) := ho3; have HG3 : Hid (W2.grownBy w3 none) := hg3; clear ho3 hg3)
    | (go_at_call 35; refine (HDc.out _ _ _ HO3.out).mono ?_; rintro e w4 ⟨rfl, hg4⟩; have HG4 : Hid (w3.grownBy w4 none) := hg4; clear hg4))
  obtain ⟨W5, hW5⟩ : ∃ W5, W5 = w4.alloc (.cells #[.int .i64 v.op, .int .i64 v.a, .int .i64 v.b, .int .i64 v.c, .int .i64 v.k, .int .i64 v.sub, .int .i64 v.scale, .int .i64 v.imm, .int .i64 v.label] 50) := ⟨_, rfl⟩
  obtain ⟨B5, hB5⟩ : ∃ B5, B5 = w4.heap.size := ⟨_, rfl⟩
  have I5 : InstAt W5 B5 v := by rw [hW5, hB5]; exact InstAt.new _ _
  have HG5 : Hid (W2.grownBy W5 none) := by rw [hW5]; exact ga (grown_trans HG3.out HG4.out) _
  have HI5 : Hid (InstAt W5 (w.heap.size + 1) zeroI) := HIR.out.kept HG5.out (by simp)
  have hBR : ¬ B5 = w.heap.size + 1 := by have := HG3.out.size; have := HG4.out.size; omega
  rw [← hW5, ← hB5]
  clear hW5 hB5
  have y0 := I5.c0
  have y1 := I5.c1
  have y2 := I5.c2
  have y3 := I5.c3
  have y4 := I5.c4
  have y5 := I5.c5
  have y6 := I5.c6
  have y7 := I5.c7
  have y8 := I5.c8
  clear I5
  have HGD : Hid (w.grownBy W5.drew none) := grown_drew (grown_trans HG2.out HG5.out)
  have HID : Hid (InstAt W5.drew (w.heap.size + 1) zeroI) := HI5.out.kept (grown_drew (World.grownBy.refl _ none)) (by simp)
  have hD5 : W5.grownBy W5.drew none := grown_drew (World.grownBy.refl _ none)
  refine region_rel (RelN (w.heap.size + 1) v) RelN.trans RelN.refl 7 (psiN v ln (w.heap.size + 1)) (by kernel_rfl) (by kernel_rfl) (by kernel_rfl) (by kernel_rfl) (fun i x w0 w1 hi h g => psiN_stable h g) ?_ ?_
  · simp only [List.take_succ_cons, List.take_zero]
    refine ⟨?_, ?_, ?_, ?_, ?_, ?_, ?_, trivial⟩
    · intro VV W0 AA g hV hs hz
      have gD : Ch W5 W0 [w.heap.size + 1] := (Ch.of hD5).trans g.1
      have e0 := hz 10 (.pointer (some ⟨B5, 0, none⟩)) (by kernel_rfl) rfl
      have x0 := gD.cell y0 (by simpa using hBR)
      have x1 := gD.cell y1 (by simpa using hBR)
      have x2 := gD.cell y2 (by simpa using hBR)
      have x3 := gD.cell y3 (by simpa using hBR)
      have x4 := gD.cell y4 (by simpa using hBR)
      have x5 := gD.cell y5 (by simpa using hBR)
      have x6 := gD.cell y6 (by simpa using hBR)
      have x7 := gD.cell y7 (by simpa using hBR)
      have x8 := gD.cell y8 (by simpa using hBR)
      clear hV hs hz
      refine outR_val (v := .agg #[.int .i64 v.op, .int .i64 v.a, .int .i64 v.b, .int .i64 v.c, .int .i64 v.k, .int .i64 v.sub, .int .i64 v.scale, .int .i64 v.imm, .int .i64 v.label]) (w' := W0) (by kernel_rfl) ?_ (RelN.refl _) rfl
      simp [go_sem, e0, x0, x1, x2, x3, x4, x5, x6, x7, x8]
    · intro VV W0 AA g hV hs hz
      have e0 := hz 11 (.int .i64 ln) (by kernel_rfl) rfl
      clear hV hs hz
      refine outR_val (v := .int .i64 ln) (w' := W0) (by kernel_rfl) ?_ (RelN.refl _) rfl
      simp [go_sem, e0]
    · intro VV W0 AA g hV hs hz
      have e0 := hz 12 (.int .i64 0) (by kernel_rfl) rfl
      clear hV hs hz
      refine outR_val (v := .int .i64 0) (w' := W0) (by kernel_rfl) ?_ (RelN.refl _) rfl
      simp [go_sem, e0]
    · intro VV W0 AA g hV hs hz
      have q2 : VV 2 = .int .i64 0 := hV 2 (by kernel_rfl)
      have e2 := hs 53 2 (by kernel_rfl) (by kernel_rfl)
      clear hV hs hz
      refine outR_call (f := 12) (by kernel_rfl) ?_ ((num6_any 0 W0).mono fun e w2 ⟨he, hg⟩ => ⟨_, he, hg ▸ RelN.refl _, rfl⟩)
      simp [go_sem, q2, e2]
    · intro VV W0 AA g hV hs hz
      have q3 : VV 3 = .int .i64 0 := hV 3 (by kernel_rfl)
      have e3 := hs 54 3 (by kernel_rfl) (by kernel_rfl)
      clear hV hs hz
      refine outR_val (v := .bool true) (w' := W0) (by kernel_rfl) ?_ (RelN.refl _) rfl
      simp [go_sem, q3, e3]
    · intro VV W0 AA g hV hs hz
      have q0 : VV 0 = .agg #[.int .i64 v.op, .int .i64 v.a, .int .i64 v.b, .int .i64 v.c, .int .i64 v.k, .int .i64 v.sub, .int .i64 v.scale, .int .i64 v.imm, .int .i64 v.label] := hV 0 (by kernel_rfl)
      have e0 := hs 51 0 (by kernel_rfl) (by kernel_rfl)
      have e4 := hz 4 (.pointer (some ⟨w.heap.size + 1, 0, none⟩)) (by kernel_rfl) rfl
      obtain ⟨u, hu⟩ := g.2.2 ⟨_, HID.out⟩
      clear hV hs hz
      have hu' := hu
      obtain ⟨z0, z1, z2, z3, z4, z5, z6, z7, z8, zz⟩ := hu
      refine outR_skip (w' := put9 W0 (w.heap.size + 1) v) ?_ (RelN.put hu') (hu'.put9 v)
      have f0 := zz 0
      have f1 := zz 1
      have f2 := zz 2
      have f3 := zz 3
      have f4 := zz 4
      have f5 := zz 5
      have f6 := zz 6
      have f7 := zz 7
      have f8 := zz 8
      simp [go_sem, q0, e0, e4, put9, z0, z1, z2, z3, z4, z5, z6, z7, z8, f0, f1, f2, f3, f4, f5, f6, f7, f8]
    · intro VV W0 AA g hV hs hz
      have q1 : VV 1 = .int .i64 ln := hV 1 (by kernel_rfl)
      have e1 := hs 52 1 (by kernel_rfl) (by kernel_rfl)
      clear hV hs hz
      refine outR_val (v := .int .i64 ln) (w' := W0) (by kernel_rfl) ?_ (RelN.refl _) rfl
      simp [go_sem, q1, e1]
  · intro VV W0 g hV
    have h0 : VV 0 = .agg #[.int .i64 v.op, .int .i64 v.a, .int .i64 v.b, .int .i64 v.c, .int .i64 v.k, .int .i64 v.sub, .int .i64 v.scale, .int .i64 v.imm, .int .i64 v.label] := hV 0 (by decide)
    have h1 : VV 1 = .int .i64 ln := hV 1 (by decide)
    have h2 : VV 2 = .int .i64 0 := hV 2 (by decide)
    have h3 : VV 3 = .int .i64 0 := hV 3 (by decide)
    have h4 : VV 4 = .bool true := hV 4 (by decide)
    have h6 : VV 6 = .int .i64 ln := hV 6 (by decide)
    have IR : InstAt W0 (w.heap.size + 1) v := hV 5 (by decide)
    have HGF : Hid (w.grownBy W0 none) := ((Ch.of HGD.out).trans g.1).nil (by simp)
    simp [frV, dstOf, Act.put, h0, h1, h2, h3, h4, h6]
    clear h0 h1 h2 h3 h4 h6 hV g y0 y1 y2 y3 y4 y5 y6 y7 y8
    go_wp2_with fail
    obtain ⟨q0, q1, q2, q3, q4, q5, q6, q7, q8, _⟩ := IR
    refine bodyPost_ret (by simp [results, Tryz.results17, go_sem, q0, q1, q2, q3, q4, q5, q6, q7, q8]; try rfl) rfl ?_
    exact ⟨rfl, HGF.out⟩
end Go.Proofs.YtkiockffejlnhaaGreatDoor

/- gantryref4.row, uses, immediate, binary, scaled: contracts. -/
namespace Go.Proofs.YtkiockffejlnhaaGreatDoor
open Go.RowKit
set_option linter.unusedVariables false
namespace Cc
def rowS (op : Int) : ByteArray :=
  if op = 1 then ⟨#[110, 105]⟩ else if op = 3 ∨ op = 26 ∨ op = 27 ∨ op = 28 then ⟨#[97]⟩ else if op = 4 ∨ op = 7 ∨ op = 8 then ⟨#[97, 75, 83]⟩ else if op = 5 then ⟨#[110, 75, 83, 105]⟩
  else if op = 6 then ⟨#[97, 75, 83, 52]⟩ else if op = 10 then ⟨#[97, 99, 52]⟩ else if op = 11 ∨ op = 13 then ⟨#[97, 75, 52]⟩ else if op = 12 ∨ op = 14 then ⟨#[97, 99, 75, 52]⟩
  else if op = 15 ∨ op = 18 then ⟨#[97, 83]⟩ else if op = 16 then ⟨#[97, 75]⟩ else if op = 17 then ⟨#[110, 75, 105]⟩ else if op = 19 then ⟨#[106, 105]⟩ else if op = 22 then ⟨#[74, 105]⟩
  else if op = 23 ∨ op = 25 ∨ op = 29 then ⟨#[52]⟩ else if op = 24 then ⟨#[45]⟩ else ⟨#[]⟩
def lts (s : ByteArray) : List Int := s.data.toList.map fun b => (b.toNat : Int)
theorem rowS_none {o : Int} (h : (o == 1) = false ∧ (o == 3) = false ∧ (o == 4) = false ∧ (o == 5) = false ∧ (o == 6) = false ∧ (o == 7) = false ∧ (o == 8) = false ∧ (o == 10) = false ∧ (o == 11) = false ∧ (o == 12) = false ∧ (o == 13) = false ∧ (o == 14) = false ∧ (o == 15) = false ∧ (o == 16) = false ∧ (o == 17) = false ∧ (o == 18) = false ∧ (o == 19) = false ∧ (o == 22) = false ∧ (o == 23) = false ∧ (o == 24) = false ∧ (o == 25) = false ∧ (o == 26) = false ∧ (o == 27) = false ∧ (o == 28) = false ∧ (o == 29) = false) : rowS o = ⟨#[]⟩ := by
  simp only [beq_eq_false_iff_ne, ne_eq] at h
  unfold rowS
  simp [h]
theorem lts_row (o : Int) : lts (rowS o) = row o := by
  rcases ops o with h | h | h | h | h | h | h | h | h | h | h | h | h | h | h | h | h | h | h | h | h | h | h | h | h | h
  case inr.inr.inr.inr.inr.inr.inr.inr.inr.inr.inr.inr.inr.inr.inr.inr.inr.inr.inr.inr.inr.inr.inr.inr.inr =>
    rw [rowS_none h, (row_none h).1]; rfl
  all_goals (rw [h]; decide)
end Cc
set_option maxHeartbeats 4000000 in
theorem rrow_any (o : Int) (w : World) :
    Calls Tryz.prog 72 #[.int .i64 o] w fun e w' => e = .returned (.string (Cc.rowS o)) ∧ w' = w := by
  go_enter Tryz.func72, Tryz.ntmps72
  go_wp2
  all_goals (go_ret; refine ⟨?_, rfl⟩; simp only [beq_iff_eq, beq_eq_false_iff_ne] at *; unfold Cc.rowS; simp [*])
set_option maxHeartbeats 4000000 in
theorem rimm_any (s k n : Int) (w : World) (h1 : -9223372036854775808 ≤ n) (h2 : n ≤ 9223372036854775807) :
    Calls Tryz.prog 104 #[.int .i64 s, .int .i64 k, .int .i64 n] w fun e w' => e = .returned (.bool (Cc.immB s k n)) ∧ w' = w := by
  have h3 : 0 ≤ n % 18446744073709551616 := by omega
  have h4 : n % 18446744073709551616 < 18446744073709551616 := by omega
  have HW : Hid (∀ x : Int, wrap64 (wrap32 (x % 4294967296)) = Rc.s32 x) := fun x => by unfold wrap64 wrap32 Rc.s32; omega
  cases hk : Wd.intB k
  all_goals
    cases hb : Wd.hasBinB s k
    all_goals
      cases hm : Rc.smallB n
      all_goals
        cases hs : Wd.shB s
        all_goals
          go_enter Tryz.func104, Tryz.ntmps104
          go_wp2_with (first
            | (go_at_call 106; refine (rint_any _ _).mono ?_; rw [hk]; rintro e w' ⟨rfl, rfl⟩)
            | (go_at_call 98; refine (rhasBin_any _ _ _).mono ?_; rw [hb]; rintro e w' ⟨rfl, rfl⟩)
            | (go_at_call 71; refine (rsmall_any _ _).mono ?_; rw [hm]; rintro e w' ⟨rfl, rfl⟩)
            | (go_at_call 105; refine (rshift_any _ _).mono ?_; rw [hs]; rintro e w' ⟨rfl, rfl⟩)
            | (go_at_call 129; refine (rcanon_any _ _ _ h3 h4).mono ?_; rintro e w' ⟨rfl, rfl⟩))
          all_goals
            go_ret
            refine ⟨ret_bool ?_, rfl⟩
            unfold Cc.immB
            simp only [hk, hb, hm, hs]
            first | (simp_all; done) | (rw [← HW.out]; simp_all; done)
end Go.Proofs.YtkiockffejlnhaaGreatDoor

/- gantryref4.uses, binary, scaled: contracts. -/
namespace Go.Proofs.YtkiockffejlnhaaGreatDoor
open Go.RowKit
set_option linter.unusedVariables false
namespace Cc
theorem uses_true {o c : Int} {k : Nat} (hk : k < (rowS o).size) (h : useL o ((rowS o)[k].toNat : Int) c = true) : usesB o c = true := by
  unfold usesB
  rw [← lts_row, List.any_eq_true]
  exact ⟨((rowS o)[k].toNat : Int), List.mem_map.mpr ⟨(rowS o)[k], by simp [ByteArray.getElem_eq_getElem_data], rfl⟩, h⟩
theorem uses_false {o c : Int} (h : ∀ k (hk : k < (rowS o).size), useL o ((rowS o)[k].toNat : Int) c = false) : usesB o c = false := by
  unfold usesB
  rw [← lts_row, List.any_eq_false]
  intro x hx
  obtain ⟨b, hb, rfl⟩ := List.mem_map.mp hx
  obtain ⟨k, hk, rfl⟩ := List.getElem_of_mem hb
  have := h k (by simpa using hk)
  rw [ByteArray.getElem_eq_getElem_data] at this
  simp only [Array.getElem_toList]
  rw [this]; simp
theorem rowS_size (o : Int) : (rowS o).size ≤ 4 := by
  rcases ops o with h | h | h | h | h | h | h | h | h | h | h | h | h | h | h | h | h | h | h | h | h | h | h | h | h | h
  case inr.inr.inr.inr.inr.inr.inr.inr.inr.inr.inr.inr.inr.inr.inr.inr.inr.inr.inr.inr.inr.inr.inr.inr.inr =>
    rw [rowS_none h]; decide
  all_goals (rw [h]; decide)
end Cc
set_option maxRecDepth 40000 in
set_option maxHeartbeats 4000000 in
theorem ruses_any (o c : Int) (w : World) :
    Calls Tryz.prog 102 #[.int .i64 o, .int .u8 c] w fun e w' => e = .returned (.bool (Cc.usesB o c)) ∧ w' = w := by
  have hsz := Cc.rowS_size o
  have HT : Hid (∀ k (hk : k < (Cc.rowS o).size), Cc.useL o ((Cc.rowS o)[k].toNat : Int) c = true → Cc.usesB o c = true) := fun k hk h => Cc.uses_true hk h
  have HF : Hid ((∀ k (hk : k < (Cc.rowS o).size), Cc.useL o ((Cc.rowS o)[k].toNat : Int) c = false) → Cc.usesB o c = false) := Cc.uses_false
  have HR : Hid (∀ W, Calls Tryz.prog 72 #[.int .i64 o] W fun e w' => e = .returned (.string (Cc.rowS o)) ∧ w' = W) := rrow_any o
  generalize Cc.rowS o = s at *
  generalize Cc.usesB o c = U at *
  go_enter Tryz.func102, Tryz.ntmps102
  go_wp2_with (go_at_call 72; refine (HR.out _).mono ?_; rintro e w' ⟨rfl, rfl⟩)
  go_loopw [6] (fun i wr => ∃ k : Nat, k ≤ s.size ∧ i = .int .i64 k ∧ wr = w' ∧ ∀ j (hj : j < s.size), j < k → Cc.useL o (s[j].toNat : Int) c = false) (fun i _ => s.size - (intOf i).toNat)
  case atStart => exact ⟨0, Nat.zero_le _, rfl, rfl, fun _ _ h => absurd h (Nat.not_lt_zero _)⟩
  case round =>
    obtain ⟨k, hk, rfl, rfl, hf⟩ := hrel
    have HP : Hid (∀ j (hj : j < s.size), j < k → Cc.useL o (s[j].toNat : Int) c = false) := hf
    clear hf
    by_cases hlt : k < s.size
    · have HT2 : Hid (Cc.useL o (s[k].toNat : Int) c = true → U = true) := HT.out k hlt
      have HN : Hid (Cc.useL o (s[k].toNat : Int) c = false → ∀ j (hj : j < s.size), j < k + 1 → Cc.useL o (s[j].toNat : Int) c = false) := fun h j hj h2 => by
        by_cases e : j = k
        · subst e; exact h
        · exact HP.out j hj (by omega)
      clear HT HF HP HR
      generalize hl : (s[k].toNat : Int) = l at *
      have hc : l = 97 ∨ l = 110 ∨ l = 99 ∨ l = 75 ∨ l = 83 ∨ l = 74 ∨ l = 105 ∨ l = 52 ∨ ((l == 97) = false ∧ (l == 110) = false ∧ (l == 99) = false ∧ (l == 75) = false ∧ (l == 83) = false ∧ (l == 74) = false ∧ (l == 105) = false ∧ (l == 52) = false) := by
        simp only [beq_eq_false_iff_ne, ne_eq]; omega
      rcases hc with rfl | rfl | rfl | rfl | rfl | rfl | rfl | rfl | hc
      case inr.inr.inr.inr.inr.inr.inr.inr =>
        have HZ0 : Cc.useL o l c = false := by
          simp only [beq_eq_false_iff_ne, ne_eq] at hc
          unfold Cc.useL
          simp [hc]
        have HZ : Hid (Cc.useL o l c = false) := HZ0
        clear HZ0
        obtain ⟨a1, a2, a3, a4, a5, a6, a7, a8⟩ := hc
        go_wp2
        exact ⟨⟨k + 1, by omega, by go_num, trivial, HN.out HZ.out⟩, by simp [intOf]; omega⟩
      · cases e1 : (c == 65)
        case true => (go_wp2; first
          | (go_ret; refine ⟨ret_bool (HT2.out ?_).symm, rfl⟩; unfold Cc.useL; (first | (simp_all; done)))
          | (refine ⟨⟨k + 1, by omega, by go_num, trivial, HN.out ?_⟩, by simp [intOf]; omega⟩; unfold Cc.useL; simp_all))
        cases e2 : (c == 66)
        case false => (go_wp2; first
          | (go_ret; refine ⟨ret_bool (HT2.out ?_).symm, rfl⟩; unfold Cc.useL; (first | (simp_all; done)))
          | (refine ⟨⟨k + 1, by omega, by go_num, trivial, HN.out ?_⟩, by simp [intOf]; omega⟩; unfold Cc.useL; simp_all))
        cases e3 : (o != 7)
        case false => (go_wp2; first
          | (go_ret; refine ⟨ret_bool (HT2.out ?_).symm, rfl⟩; unfold Cc.useL; (first | (simp_all; done)))
          | (refine ⟨⟨k + 1, by omega, by go_num, trivial, HN.out ?_⟩, by simp [intOf]; omega⟩; unfold Cc.useL; simp_all))
        cases e4 : (o != 27)
        case false => (go_wp2; first
          | (go_ret; refine ⟨ret_bool (HT2.out ?_).symm, rfl⟩; unfold Cc.useL; (first | (simp_all; done)))
          | (refine ⟨⟨k + 1, by omega, by go_num, trivial, HN.out ?_⟩, by simp [intOf]; omega⟩; unfold Cc.useL; simp_all))
        cases e5 : (o != 28)
        case false => (go_wp2; first
          | (go_ret; refine ⟨ret_bool (HT2.out ?_).symm, rfl⟩; unfold Cc.useL; (first | (simp_all; done)))
          | (refine ⟨⟨k + 1, by omega, by go_num, trivial, HN.out ?_⟩, by simp [intOf]; omega⟩; unfold Cc.useL; simp_all))
        cases e6 : (o != 18)
        all_goals (go_wp2; first
          | (go_ret; refine ⟨ret_bool (HT2.out ?_).symm, rfl⟩; unfold Cc.useL; (first | (simp_all; done)))
          | (refine ⟨⟨k + 1, by omega, by go_num, trivial, HN.out ?_⟩, by simp [intOf]; omega⟩; unfold Cc.useL; simp_all))
      all_goals
        go_wp2
        all_goals first
          | (go_ret; refine ⟨ret_bool (HT2.out ?_).symm, rfl⟩; unfold Cc.useL; (first | (simp_all; done)))
          | (refine ⟨⟨k + 1, by omega, by go_num, trivial, HN.out ?_⟩, by simp [intOf]; omega⟩; unfold Cc.useL; simp_all)
    · have HU : Hid (U = false) := HF.out fun j hj => HP.out j hj (by omega)
      go_wp2
      go_ret
      exact ⟨ret_bool HU.out.symm, rfl⟩
end Go.Proofs.YtkiockffejlnhaaGreatDoor

/- gantryref4.May: its contract. -/
namespace Go.Proofs.YtkiockffejlnhaaGreatDoor
open Go.RowKit
set_option linter.unusedVariables false
set_option maxHeartbeats 4000000 in
theorem rbinary_any (v : InV) (w : World) :
    Calls Tryz.prog 103 #[inst v] w fun e w' => e = .returned (.bool (Cc.binB v)) ∧ w.grownBy w' none := by
  unfold inst
  cases hb : Wd.hasBinB v.sub v.k
  all_goals
    cases hs : Wd.shB v.sub
    all_goals
      cases hk : Wd.intB v.k
      all_goals
        go_enter Tryz.func103, Tryz.ntmps103
        go_wp2_with (first
          | (go_at_call 106; refine (rint_any _ _).mono ?_; rw [hk]; rintro e w' ⟨rfl, rfl⟩)
          | (go_at_call 98; refine (rhasBin_any _ _ _).mono ?_; rw [hb]; rintro e w' ⟨rfl, rfl⟩)
          | (go_at_call 105; refine (rshift_any _ _).mono ?_; rw [hs]; rintro e w' ⟨rfl, rfl⟩))
        all_goals
          go_ret
          refine ⟨ret_bool ?_, World.grownBy_alloc _ _ _⟩
          unfold Cc.binB
          simp only [hb, hs, hk]
          first | rfl | (simp_all; done)
set_option maxHeartbeats 4000000 in
theorem rscaled_any (v : InV) (w : World) :
    Calls Tryz.prog 107 #[inst v] w fun e w' => e = .returned (.bool (Cc.sclB v)) ∧ w.grownBy w' none := by
  unfold inst
  go_enter Tryz.func107, Tryz.ntmps107
  go_wp2
  all_goals
    go_ret
    refine ⟨ret_bool ?_, World.grownBy_alloc _ _ _⟩
    unfold Cc.sclB
    first | rfl | (simp_all; done)
theorem rbinary_at (op a b c k sub sc imm lb : Int) (w : World) :
    Calls Tryz.prog 103 #[.agg #[.int .i64 op, .int .i64 a, .int .i64 b, .int .i64 c, .int .i64 k, .int .i64 sub, .int .i64 sc, .int .i64 imm, .int .i64 lb]] w fun e w' => e = .returned (.bool (Cc.binB ⟨op, a, b, c, k, sub, sc, imm, lb⟩)) ∧ w.grownBy w' none := rbinary_any ⟨op, a, b, c, k, sub, sc, imm, lb⟩ w
theorem rscaled_at (op a b c k sub sc imm lb : Int) (w : World) :
    Calls Tryz.prog 107 #[.agg #[.int .i64 op, .int .i64 a, .int .i64 b, .int .i64 c, .int .i64 k, .int .i64 sub, .int .i64 sc, .int .i64 imm, .int .i64 lb]] w fun e w' => e = .returned (.bool (Cc.sclB ⟨op, a, b, c, k, sub, sc, imm, lb⟩)) ∧ w.grownBy w' none := rscaled_any ⟨op, a, b, c, k, sub, sc, imm, lb⟩ w
end Go.Proofs.YtkiockffejlnhaaGreatDoor
