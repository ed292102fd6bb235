/- MemApart: the walk. -/
import Derived.Test.YtnedflpcfpkbnaaMArgs
namespace Go.Proofs.Ytnedflpcfpkbnaa
open Go.RowKit
set_option linter.unusedVariables false

namespace Mm
theorem canon_low {k : Int} (h : Wd.wordB k = true) (z : Int) : Wd.canon k (z % 256 ^ (Wd.by' k).toNat) = Wd.canon k z := by
  rcases Wd.kinds k with h | h | h | h | h | h | h | h | h | h | h | h'
  all_goals first
    | (subst h
       simp only [Wd.by', Wd.wid]
       simp only [Wd.canon1, Wd.canon2, Wd.canon3, Wd.canon4, Wd.canon5, Wd.canon6, Wd.canon7, Wd.canon8, Wd.canon9, Wd.canon10, Wd.canon11]
       simp
       try omega)
    | (exfalso; unfold Wd.wordB at h; simp at h; omega)
theorem by_word {k : Int} (h : Wd.wordB k = true) : Wd.by' k = 1 ∨ Wd.by' k = 2 ∨ Wd.by' k = 4 ∨ Wd.by' k = 8 := by
  rcases by_cases k with ⟨h', _⟩ | ⟨_, h'⟩
  · rw [h] at h'; cases h'
  · exact h'
theorem has_word {k a : Int} (h : Wd.wordB k = true) (a1 : 4096 ≤ a) (a2 : a ≤ 8095) : hasB 8192 a (Wd.by' k) = true := by
  have := by_word h
  unfold hasB; simp; omega
theorem is_word {k x : Int} (h : Wd.wordB k = true) (hx : Wd.canon k x = x) : Wd.isB k x = true := by
  unfold Wd.isB; unfold Wd.wordB at h; rw [h, hx]; simp
section
variable {f : Nat → Int} {k j a b x y : Int} (hk : Wd.wordB k = true) (hj : Wd.wordB j = true) (a1 : 4096 ≤ a) (a2 : a ≤ 8095) (b1 : 4096 ≤ b) (b2 : b ≤ 8095) (hx : Wd.canon k x = x) (hy : Wd.canon j y = y)
theorem ap_sE (hk : Wd.wordB k = true) (a1 : 4096 ≤ a) (a2 : a ≤ 8095) (hx : Wd.canon k x = x) : sE 8192 k a x = 0 := sE_in hk (is_word hk hx) (has_word hk a1 a2)
theorem ap_lE (hk : Wd.wordB k = true) (a1 : 4096 ≤ a) (a2 : a ≤ 8095) : lE 8192 k a = 0 := lE_in hk (has_word hk a1 a2)
theorem ap_same (hj : Wd.wordB j = true) (b1 : 4096 ≤ b) (b2 : b ≤ 8095) (hy : Wd.canon j y = y) : lV 8192 (sM 8192 f j b y) j b = y := by
  rw [lV_in hj (has_word hj b1 b2), sM_in hj (is_word hj hy) (has_word hj b1 b2), ld_pt_same, canon_low hj, hy]
theorem ap_low (hj : Wd.wordB j = true) (b1 : 4096 ≤ b) (b2 : b ≤ 8095) (hy : Wd.canon j y = y) : lV 8192 (sM 8192 f j b y) 6 b = y % 256 := by
  have h6 := has_word (k := 6) rfl b1 b2
  rw [lV_in rfl h6, sM_in hj (is_word hj hy) (has_word hj b1 b2)]
  have e : (Wd.by' 6).toNat = 0 + 1 := rfl
  have hb := by_word hj
  rw [e, ld_succ, ld_zero, pt_in (i := 0) (by omega), Wd.canon6]
  unfold by8
  simp
theorem ap_apart (hk : Wd.wordB k = true) (hj : Wd.wordB j = true) (a1 : 4096 ≤ a) (a2 : a ≤ 8095) (b1 : 4096 ≤ b) (b2 : b ≤ 8095) (hx : Wd.canon k x = x) (hy : Wd.canon j y = y) (h : a + Wd.by' k ≤ b ∨ b + Wd.by' j ≤ a) : lV 8192 (sM 8192 (sM 8192 f k a x) j b y) k a = x := by
  have h1 := by_word hk
  have h2 := by_word hj
  rw [lV_in hk (has_word hk a1 a2), sM_in hj (is_word hj hy) (has_word hj b1 b2), ld_pt_apart _ _ _ _ _ _ (by omega), sM_in hk (is_word hk hx) (has_word hk a1 a2), ld_pt_same, canon_low hk, hx]
theorem ap_zero (hk : Wd.wordB k = true) (a1 : 4096 ≤ a) (a2 : a ≤ 8095) : lV 8192 (fun _ => 0) k a = 0 := by
  rw [lV_in hk (has_word hk a1 a2)]
  have : ∀ c n, ld (fun _ => 0) c n = 0 := by
    intro c n
    induction n with
    | zero => rfl
    | succ n ih => rw [ld_succ, ih]; simp
  rw [this]
  rcases Wd.kinds k with h | h | h | h | h | h | h | h | h | h | h | h
  all_goals first | (subst h; decide) | exact Wd.canon_out k _ h
end
end Mm

theorem kind11 (K : Int) : Wd.wordB (wrap64 (1 + wrap64 ((IntKind.u64.wrap K).tmod 11))) = true := by
  rw [IntKind.wrap_u64, Int.tmod_eq_emod_of_nonneg (by omega)]; unfold Wd.wordB wrap64; simp; omega

theorem Below.of_grown {w w' : World} {row : Option Nat} {N : Nat} {w0 : World} (h : Below N w0 w) (hg : w.grownBy w' row) (hN : N ≤ w.heap.size) (hr : ∀ k, row = some k → N ≤ k) : Below N w0 w' := h.grown hg hN hr

set_option maxRecDepth 100000 in
set_option maxHeartbeats 4000000 in
theorem memApart_walk (a0 : Option Addr) (len cap : Nat) (V : Nat → OpV) (w : World) (hop : IsOps w a0 len cap V) :
    Calls Try.prog 4 #[.slice a0 len cap] w fun e w' => e = .returned (.bool true) ∧ Below w.heap.size w w' := by
  obtain ⟨hlc, hcm, hop⟩ := hop
  have hcap : (len : Int) ≤ 9223372036854775807 := by unfold maxLen at hcm; omega
  have HO : Hid (len = 0 ∨ ∃ b off, a0 = some ⟨b, off, none⟩ ∧ b < w.heap.size ∧ ∀ i, i < len → OpAt w b (off + i * 6) (V i) ∧ OpFit (V i)) := hop
  clear hop hcm hlc
  go_enter Try.func4, Try.ntmps4
  go_wp2_with (first
    | (go_at_call 5; refine (new_in 8192 _ (by decide) (by decide)).mono ?_; first | (rintro e w1 ⟨rfl, hm1, hg1⟩) | (rintro e w2 ⟨rfl, hm2, hg2⟩))
    | (go_at_call 7; refine (num_any _ _).mono ?_; rintro e w' ⟨rfl, rfl⟩))
  have m1 : IsM w1 (w.heap.size + 1) w.heap.size 8192 (fun _ => 0) := by assumption
  have g1 : w.grownBy w1 none := by assumption
  have m2 : IsM w' (w1.heap.size + 1) w1.heap.size 8192 (fun _ => 0) := by assumption
  have g2 : w1.grownBy w' none := by assumption
  have hNM : w.heap.size + 1 < w1.heap.size := m1.head.lt
  have hM : w1.heap.size + 1 < w'.heap.size := m2.head.lt
  have m1' : IsM w' (w.heap.size + 1) w.heap.size 8192 (fun _ => 0) := m1.kept g2 (by simp) (by simp)
  have hb0 : Below w.heap.size w w' := ((Below.refl _ _).grown g1 (Nat.le_refl _) (by simp)).grown g2 g1.size (by simp)
  have HNM : Hid (w.heap.size + 1 < w1.heap.size) := hNM
  clear m1 g1 g2 hNM hM hm1 hg1
  go_loopw [7] (fun s wr => ∃ i : Nat, s = .int .i64 i ∧ i ≤ 100 ∧ (∃ f, IsM wr (w.heap.size + 1) w.heap.size 8192 f) ∧ IsM wr (w1.heap.size + 1) w1.heap.size 8192 (fun _ => 0) ∧ Below w.heap.size w wr) (fun s _ => 100 - (intOf s).toNat)
  case atStart => exact ⟨0, rfl, by omega, ⟨_, m1'⟩, m2, hb0⟩
  case round =>
    obtain ⟨i, rfl, hi, ⟨f, hf⟩, hz, hbel⟩ := hrel
    clear m1' m2 hb0
    by_cases hlt : i + 1 < len
    · by_cases h100 : (i : Int) < 100
      · rcases HO.out with h0 | ⟨b, off, rfl, hbb, HV⟩
        · omega
        obtain ⟨o1, f1⟩ := HV i (by omega)
        obtain ⟨o2, f2⟩ := HV (i + 1) (by omega)
        have c1 := (hbel.cell (p := ⟨b, off + i * 6 + 1, none⟩) hbb).trans o1.c1
        have c3 := (hbel.cell (p := ⟨b, off + i * 6 + 3, none⟩) hbb).trans o1.c3
        have c4 := (hbel.cell (p := ⟨b, off + i * 6 + 4, none⟩) hbb).trans o1.c4
        have d1 := (hbel.cell (p := ⟨b, off + (i + 1) * 6 + 1, none⟩) hbb).trans o2.c1
        have d3 := (hbel.cell (p := ⟨b, off + (i + 1) * 6 + 3, none⟩) hbb).trans o2.c3
        have d4 := (hbel.cell (p := ⟨b, off + (i + 1) * 6 + 4, none⟩) hbb).trans o2.c4
        have a1 := f1.a1
        have a2 := f1.a2
        have x1 := f1.x1
        have x2 := f1.x2
        have b1 := f2.a1
        have b2 := f2.a2
        have y1 := f2.x1
        have y2 := f2.x2
        generalize (V i).k = K at *
        generalize (V i).a = A at *
        generalize (V i).x = X at *
        generalize (V (i + 1)).k = J at *
        generalize (V (i + 1)).a = C at *
        generalize (V (i + 1)).x = Y at *
        have HB : Hid (b < w.heap.size) := hbb
        clear o1 o2 f1 f2 HV HO hbb
        go_wp2_with fail
        have hk := kind11 K
        have hj := kind11 J
        generalize wrap64 (1 + wrap64 ((IntKind.u64.wrap K).tmod 11)) = k at *
        generalize wrap64 (1 + wrap64 ((IntKind.u64.wrap J).tmod 11)) = j at *
        have p1 : 4096 ≤ 4096 + A % 4000 := by omega
        have p2 : 4096 + A % 4000 ≤ 8095 := by omega
        have q1 : 4096 ≤ 4096 + C % 4000 := by omega
        have q2 : 4096 + C % 4000 ≤ 8095 := by omega
        generalize 4096 + A % 4000 = a at *
        generalize 4096 + C % 4000 = c at *
        obtain ⟨x, hx⟩ : ∃ x, Wd.canon k X = x := ⟨_, rfl⟩
        obtain ⟨y, hy⟩ : ∃ y, Wd.canon j Y = y := ⟨_, rfl⟩
        have ex : Wd.canon k x = x := by rw [← hx, Wd.canon_canon]
        have ey : Wd.canon j y = y := by rw [← hy, Wd.canon_canon]
        have rx := Wd.canon_rng k X
        have ry := Wd.canon_rng j Y
        rw [hx] at rx
        rw [hy] at ry
        obtain ⟨rx1, rx2⟩ := rx
        obtain ⟨ry1, ry2⟩ := ry
        have HX : Hid (Wd.canon k X = x) := hx
        have HY : Hid (Wd.canon j Y = y) := hy
        have ks : Mm.sE 8192 k a x = 0 := Mm.ap_sE hk p1 p2 ex
        have js : Mm.sE 8192 j c y = 0 := Mm.ap_sE hj q1 q2 ey
        have kl : Mm.lE 8192 k a = 0 := Mm.ap_lE hk p1 p2
        have jl : Mm.lE 8192 j c = 0 := Mm.ap_lE hj q1 q2
        have l6 : Mm.lE 8192 6 c = 0 := Mm.ap_lE rfl q1 q2
        have vj : Mm.lV 8192 (Mm.sM 8192 (Mm.sM 8192 f k a x) j c y) j c = y := Mm.ap_same hj q1 q2 ey
        have v6 : Mm.lV 8192 (Mm.sM 8192 (Mm.sM 8192 f k a x) j c y) 6 c = y % 256 := Mm.ap_low hj q1 q2 ey
        have vz : Mm.lV 8192 (fun _ => 0) k a = 0 := Mm.ap_zero hk p1 p2
        have HK : Hid (a + Wd.by' k ≤ c ∨ c + Wd.by' j ≤ a → Mm.lV 8192 (Mm.sM 8192 (Mm.sM 8192 f k a x) j c y) k a = x) := Mm.ap_apart hk hj p1 p2 q1 q2 ex ey
        have e255 : bits .and .u64 y 255 = y % 256 := Mm.and_255 ry1 ry2
        have nk := Mm.by_word hk
        have nj := Mm.by_word hj
        have a0 : 0 ≤ a := by omega
        have a9 : a < 18446744073709551616 := by omega
        have c0 : 0 ≤ c := by omega
        have c9 : c < 18446744073709551616 := by omega
        have bk1 : 0 ≤ Wd.by' k := by omega
        have bk2 : Wd.by' k ≤ 8 := by omega
        have bj1 : 0 ≤ Wd.by' j := by omega
        have bj2 : Wd.by' j ≤ 8 := by omega
        clear hx hy ex ey hk hj nk nj
        refine (rcanon_any _ _ _ x1 x2).mono ?_
        rw [HX.out]
        rintro e w3 ⟨rfl, rfl⟩
        go_wp2_with (first
          | (go_at_call 14; refine (rcanon_any _ _ _ y1 y2).mono ?_; rw [HY.out]; rintro e w3 ⟨rfl, rfl⟩)
          | (go_at_call 7; refine (num_any _ _).mono ?_; rintro e w3 ⟨rfl, rfl⟩)
          | (go_at_call 15; refine (store_any _ _ _ _ _ _ _ _ hf3 (by decide) c0 c9 ry1 ry2).mono ?_; rintro e w4 ⟨rfl, hf4, hg4⟩)
          | (go_at_call 15; refine (store_any _ _ _ _ _ _ _ _ hf (by decide) a0 a9 rx1 rx2).mono ?_; rintro e w3 ⟨rfl, hf3, hg3⟩))
        have hne1 : some (w1.heap.size + 1) ≠ some w.heap.size := by have := HNM.out; intro e; injection e with e; omega
        have hne2 : some w1.heap.size ≠ some w.heap.size := by have := HNM.out; intro e; injection e with e; omega
        have hz4 := (hz.kept hg3 hne1 hne2).kept hg4 hne1 hne2
        have hb4 : Below w.heap.size w w3 := (hbel.grown hg3 hbel.size (fun k e => by injection e with e; omega)).grown hg4 (Nat.le_trans hbel.size hg3.size) (fun k e => by injection e with e; omega)
        clear hne1 hne2 hz hg3 hg4 hf hf3 hbel c1 c3 c4 d1 d3 d4
        by_cases h1 : a + Wd.by' k ≤ c
        · have vk := HK.out (.inl h1)
          clear HK
          go_wp2_with (first
            | (go_at_call 16; refine (rbytes_any _ _).mono ?_; rintro e w5 ⟨rfl, rfl⟩)
            | (go_at_call 7; refine (num_any _ _).mono ?_; rintro e w5 ⟨rfl, rfl⟩)
            | (go_at_call_of 17 w1; refine (load_any _ _ _ _ a k _ hz4 (by decide) a0 a9).mono ?_; rintro e w5 ⟨rfl, rfl⟩) | (go_at_call_of 17 j; refine (load_any _ _ _ _ c j _ hf4 (by decide) c0 c9).mono ?_; rintro e w5 ⟨rfl, rfl⟩) | (go_at_call_of 17 k; refine (load_any _ _ _ _ a k _ hf4 (by decide) a0 a9).mono ?_; rintro e w5 ⟨rfl, rfl⟩) | (go_at_call 17; refine (load_any _ _ _ _ c 6 _ hf4 (by decide) c0 c9).mono ?_; rintro e w5 ⟨rfl, rfl⟩))
          go_roundw
          case rel => exact ⟨i + 1, by go_num, by omega, ⟨_, hf4⟩, hz4, hb4⟩
          case measure => simp [intOf]; omega
        · by_cases h2 : c + Wd.by' j ≤ a
          · have vk := HK.out (.inr h2)
            clear HK
            go_wp2_with (first
              | (go_at_call 16; refine (rbytes_any _ _).mono ?_; rintro e w5 ⟨rfl, rfl⟩)
              | (go_at_call 7; refine (num_any _ _).mono ?_; rintro e w5 ⟨rfl, rfl⟩)
              | (go_at_call_of 17 w1; refine (load_any _ _ _ _ a k _ hz4 (by decide) a0 a9).mono ?_; rintro e w5 ⟨rfl, rfl⟩) | (go_at_call_of 17 j; refine (load_any _ _ _ _ c j _ hf4 (by decide) c0 c9).mono ?_; rintro e w5 ⟨rfl, rfl⟩) | (go_at_call_of 17 k; refine (load_any _ _ _ _ a k _ hf4 (by decide) a0 a9).mono ?_; rintro e w5 ⟨rfl, rfl⟩) | (go_at_call 17; refine (load_any _ _ _ _ c 6 _ hf4 (by decide) c0 c9).mono ?_; rintro e w5 ⟨rfl, rfl⟩))
            go_roundw
            case rel => exact ⟨i + 1, by go_num, by omega, ⟨_, hf4⟩, hz4, hb4⟩
            case measure => simp [intOf]; omega
          · clear HK
            go_wp2_with (first
              | (go_at_call 16; refine (rbytes_any _ _).mono ?_; rintro e w5 ⟨rfl, rfl⟩)
              | (go_at_call 7; refine (num_any _ _).mono ?_; rintro e w5 ⟨rfl, rfl⟩)
              | (go_at_call_of 17 w1; refine (load_any _ _ _ _ a k _ hz4 (by decide) a0 a9).mono ?_; rintro e w5 ⟨rfl, rfl⟩) | (go_at_call_of 17 j; refine (load_any _ _ _ _ c j _ hf4 (by decide) c0 c9).mono ?_; rintro e w5 ⟨rfl, rfl⟩) | (go_at_call_of 17 k; refine (load_any _ _ _ _ a k _ hf4 (by decide) a0 a9).mono ?_; rintro e w5 ⟨rfl, rfl⟩) | (go_at_call 17; refine (load_any _ _ _ _ c 6 _ hf4 (by decide) c0 c9).mono ?_; rintro e w5 ⟨rfl, rfl⟩))
            go_roundw
            case rel => exact ⟨i + 1, by go_num, by omega, ⟨_, hf4⟩, hz4, hb4⟩
            case measure => simp [intOf]; omega
      · go_wp2_with (go_at_call 8; refine (wakes_any _).mono ?_; rintro e w5 ⟨rfl, hg5⟩)
        go_ret
        exact ⟨rfl, hbel.grown hg5 hbel.size (by simp)⟩
    · go_wp2_with (go_at_call 8; refine (wakes_any _).mono ?_; rintro e w5 ⟨rfl, hg5⟩)
      go_ret
      exact ⟨rfl, hbel.grown hg5 hbel.size (by simp)⟩

end Go.Proofs.Ytnedflpcfpkbnaa
