/- MemExact: the walk. -/
import Derived.Test.YtnedflpcfpkbnaaMPuts
namespace Go.Proofs.Ytnedflpcfpkbnaa
open Go.RowKit
set_option linter.unusedVariables false

theorem one_any {N S : Nat} {w : World} {Bm Dm Br Dr : Nat} {f : Nat → Int} (v : OpV) (hv : OpFit v) (h : Pair N S w Bm Dm Br Dr f) (hS : (S : Int) ≤ 1048576) (hbl : (v.bl : Int) ≤ 4000) (hnil : v.bo = none → v.bl = 0 ∧ v.bc = 0) (hfit : Mm.Fit v.bg)
    (hbs : v.bl = 0 ∨ ∃ b off, v.bo = some ⟨b, off, none⟩ ∧ b < N ∧ ∀ i, i < v.bl → w.cell? ⟨b, off + i, none⟩ = some (.int .u8 (v.bg i))) :
    Calls Try.prog 11 #[.pointer (some ⟨Bm, 0, none⟩), .pointer (some ⟨Br, 0, none⟩), .agg #[.int .i64 v.op, .int .i64 v.k, .int .i64 v.n, .int .u64 v.a, .int .u64 v.x, .slice v.bo v.bl v.bc]] w fun e w' =>
      e = .returned (.bool true) ∧ (∃ f', Pair N S w' Bm Dm Br Dr f') ∧ Below N w w' := by
  obtain ⟨op, k, n, a, x, bo, bl, bc, bg⟩ := v
  obtain ⟨_, _, _, _, n1, n2, a1, a2, x1, x2⟩ := hv
  dsimp only at *
  by_cases o0 : op = 0
  · subst o0; exact one_load k n a x bo bl bc h hS a1 a2
  by_cases o1 : op = 1
  · subst o1; exact one_store k n a x bo bl bc h hS a1 a2 x1 x2
  by_cases o2 : op = 2
  · subst o2; exact one_get k n a x bo bl bc h hS a1 a2 n1 n2
  exact one_put op k n a x bo bl bc bg h hS a1 a2 (by simpa using o0) (by simpa using o1) (by simpa using o2) hbl hnil hfit hbs

theorem get_rest {N S M : Nat} {w : World} {Bm Dm Br Dr : Nat} {f : Nat → Int} (h : Pair N S w Bm Dm Br Dr f) (hS : (S : Int) ≤ 1048576) (hM : 4096 + M = S) (hpos : 0 < M) :
    Calls Try.prog 12 #[.pointer (some ⟨Bm, 0, none⟩), .int .u64 4096, .int .i64 M] w fun e w' => e = .returned (.tuple #[.slice (some ⟨w.heap.size, 0, none⟩) M M, .int .i64 0]) ∧
      OwnB w' w.heap.size (.slice (some ⟨w.heap.size, 0, none⟩) M M) M (fun i => f (4096 + i)) ∧ w.grownBy w' none :=
  get_in Bm Dm S M f 4096 w h.hm hS hpos (by omega) (by omega)

theorem eq_rest {N S M : Nat} {w2 : World} {Bm Dm Br Dr T : Nat} {f : Nat → Int} (h : Pair N S w2 Bm Dm Br Dr f) (hS : (S : Int) ≤ 1048576) (hM : 4096 + M = S) (ho : OwnB w2 T (.slice (some ⟨T, 0, none⟩) M M) M (fun i => f (4096 + i))) (cb : Nat) :
    Calls Try.prog 13 #[.slice (some ⟨T, 0, none⟩) M M, .slice (some ⟨Dr, 4096, none⟩) M cb] w2 fun e w' => e = .returned (.bool true) ∧ ∃ d, w' = w2.drewN d :=
  eq_true M M cb T 0 Dr 4096 (fun i => f (4096 + i)) (fun i => f (4096 + i)) w2 (by omega) (fun i hi => by rw [Nat.zero_add]; exact ho.cellAt hi) (row_cells h.hr.row (by omega)) (fun _ _ => rfl)

set_option maxRecDepth 100000 in
set_option maxHeartbeats 4000000 in
theorem memExact_out (s : Int) (a0 : Option Addr) (len cap : Nat) (w : World) (hs : s < 8192 ∨ 1048576 < s) :
    Calls Try.prog 3 #[.agg #[.int .i64 s, .slice a0 len cap]] w fun e w' => e = .returned (.bool true) ∧ Below w.heap.size w w' := by
  have HM : (decide (8192 ≤ s) && decide (s ≤ 1048576)) = false := by simp; omega
  have HS : Hid (s < 8192 ∨ 1048576 < s) := hs
  clear hs
  go_enter Try.func3, Try.ntmps3
  go_wp2_with (first
    | (go_at_call 5; refine (new_out _ _ HS.out).mono ?_; rintro e w1 ⟨rfl, rfl⟩)
    | (go_at_call 6; refine (may_any _ _).mono ?_; rw [HM]; rintro e w1 ⟨rfl, rfl⟩)
    | (go_at_call 7; refine (num_any _ _).mono ?_; rintro e w1 ⟨rfl, rfl⟩)
    | (go_at_call 8; refine (wakes_any _).mono ?_; rintro e w5 ⟨rfl, hg5⟩))
  go_ret
  exact ⟨rfl, ((Below.refl _ _).alloc (Nat.le_refl _) _).grown hg5 (by simp) (by simp)⟩

set_option maxRecDepth 100000 in
set_option maxHeartbeats 4000000 in
theorem memExact_in (S : Nat) (a0 : Option Addr) (len cap : Nat) (V : Nat → OpV) (w : World) (hop : IsOps w a0 len cap V) (s1 : (8192 : Int) ≤ S) (s2 : (S : Int) ≤ 1048576) :
    Calls Try.prog 3 #[.agg #[.int .i64 S, .slice a0 len cap]] w fun e w' => e = .returned (.bool true) ∧ Below w.heap.size w w' := by
  obtain ⟨hlc, hcm, hop⟩ := hop
  have hcap : (len : Int) ≤ 9223372036854775807 := by unfold maxLen at hcm; omega
  have HO : Hid (len = 0 ∨ ∃ b off, a0 = some ⟨b, off, none⟩ ∧ b < w.heap.size ∧ ∀ i, i < len → OpAt w b (off + i * 6) (V i) ∧ OpFit (V i)) := hop
  clear hop hcm hlc
  have HM : (decide ((8192 : Int) ≤ S) && decide ((S : Int) ≤ 1048576)) = true := by simp; omega
  have HS1 : Hid ((8192 : Int) ≤ S) := s1
  have HS2 : Hid ((S : Int) ≤ 1048576) := s2
  obtain ⟨o, ho⟩ : ∃ o, o = Obj.cells #[.int .i64 S, .slice a0 len cap] 24 := ⟨_, rfl⟩
  have hb1 : Below w.heap.size w (w.alloc o) := (Below.refl _ w).alloc (Nat.le_refl _) o
  have c0 : (w.alloc o).cell? ⟨w.heap.size, 0, none⟩ = some (.int .i64 S) := by rw [ho]; simp
  have c1 : (w.alloc o).cell? ⟨w.heap.size, 1, none⟩ = some (.slice a0 len cap) := by rw [ho]; simp
  have HPT : Hid (w.heap.size < (w.alloc o).heap.size) := World.block_lt_of_cell? _ _ c0
  have hO1 : Hid (len = 0 ∨ ∃ b off, a0 = some ⟨b, off, none⟩ ∧ b < (w.alloc o).heap.size ∧ ∀ i, i < len → OpFit (V i) ∧ ∃ c : OpAt w b (off + i * 6) (V i), True) := by
    rcases HO.out with h | ⟨b, off, h1, h2, h3⟩
    · exact .inl h
    · exact .inr ⟨b, off, h1, Nat.lt_trans h2 HPT.out, fun i hi => ⟨(h3 i hi).2, (h3 i hi).1, trivial⟩⟩
  clear hO1
  subst ho
  clear s1 s2
  go_enter Try.func3, Try.ntmps3
  go_wp2_with fail
  generalize w.alloc (Obj.cells #[.int .i64 S, .slice a0 len cap] 24) = W1 at *
  refine (new_in S W1 HS1.out HS2.out).mono ?_
  rintro e W2 ⟨rfl, hm2, hg2⟩
  have d0 : W2.cell? ⟨w.heap.size, 0, none⟩ = some (.int .i64 S) := hg2.cell c0 (by simp)
  have hb2 : Below W1.heap.size W1 W2 := (Below.refl _ _).grown hg2 (Nat.le_refl _) (by simp)
  have hT : W1.heap.size + 1 < W2.heap.size := hm2.head.lt
  go_wp2_with (first
    | (go_at_call 6; refine (may_any _ _).mono ?_; rw [HM]; rintro e w1 ⟨rfl, rfl⟩)
    | (go_at_call 7; refine (num_any _ _).mono ?_; rintro e w1 ⟨rfl, rfl⟩))
  go_quiet ((first
    | (go_at_call 7; exact Calls.quiet_of_same (num_any _ _))
    | (go_at_call 9; exact Calls.quiet_of_same (size_any _ _ _ _ _ (hm2.drewN _)))))
  go_wp2_with fail
  refine (rnew_any S (w1.drewN nq) HS2.out).mono ?_
  rintro e W3 ⟨rfl, hr3, hg3⟩
  have hr3 : IsR W3 (w1.heap.size + 1) w1.heap.size S (fun _ => 0) := hr3
  have hg3 : (w1.drewN nq).grownBy W3 none := hg3
  have p3 : Pair W1.heap.size S W3 (W1.heap.size + 1) W1.heap.size (w1.heap.size + 1) w1.heap.size (fun _ => 0) :=
    ⟨(hm2.drewN nq).kept hg3 (by simp) (by simp), hr3, by omega, Nat.le_refl _, by omega, by omega, by omega⟩
  have hb3 : Below W1.heap.size W1 W3 := (below_drewN hb2 nq).grown hg3 hb2.size (by simp)
  obtain ⟨M, hM⟩ : ∃ M, 4096 + M = S := ⟨S - 4096, by have := HS1.out; omega⟩
  have HMS : Hid (4096 + M = S) := hM
  have hMpos : 0 < M := by have := HS1.out; omega
  have FIN : Hid (∀ X, Below W1.heap.size W1 X → Below w.heap.size w X) := fun X h => hb1.trans (h.mono (Nat.le_of_lt HPT.out))
  clear hr3 hg3 hm2 hg2 hb2 hT d0 hM
  go_wp2
  go_loopw [6] (fun s wr => ∃ i : Nat, s = .int .i64 i ∧ i ≤ 100 ∧ (∃ f, Pair W1.heap.size S wr (W1.heap.size + 1) W1.heap.size (w1.heap.size + 1) w1.heap.size f) ∧ Below W1.heap.size W1 wr) (fun s _ => 100 - (intOf s).toNat)
  case atStart => exact ⟨0, rfl, by omega, ⟨_, p3⟩, hb3⟩
  case round =>
    obtain ⟨i, rfl, hi, ⟨f, hp⟩, hbel⟩ := hrel
    clear p3 hb3
    have k0 : wr.cell? ⟨w.heap.size, 0, none⟩ = some (.int .i64 S) := (hbel.cell (p := ⟨w.heap.size, 0, none⟩) HPT.out).trans c0
    have k1 : wr.cell? ⟨w.heap.size, 1, none⟩ = some (.slice a0 len cap) := (hbel.cell (p := ⟨w.heap.size, 1, none⟩) HPT.out).trans c1
    clear c0 c1
    by_cases hlt : i < len
    · by_cases h100 : (i : Int) < 100
      · rcases HO.out with h0 | ⟨b, off, rfl, hbb, HV⟩
        · omega
        obtain ⟨o1, f1⟩ := HV i hlt
        have hbT : b < W1.heap.size := Nat.lt_trans hbb HPT.out
        have e0 := (hbel.cell (p := ⟨b, off + i * 6, none⟩) hbT).trans ((hb1.cell (p := ⟨b, off + i * 6, none⟩) hbb).trans o1.c0)
        have e1 := (hbel.cell (p := ⟨b, off + i * 6 + 1, none⟩) hbT).trans ((hb1.cell (p := ⟨b, off + i * 6 + 1, none⟩) hbb).trans o1.c1)
        have e2 := (hbel.cell (p := ⟨b, off + i * 6 + 2, none⟩) hbT).trans ((hb1.cell (p := ⟨b, off + i * 6 + 2, none⟩) hbb).trans o1.c2)
        have e3 := (hbel.cell (p := ⟨b, off + i * 6 + 3, none⟩) hbT).trans ((hb1.cell (p := ⟨b, off + i * 6 + 3, none⟩) hbb).trans o1.c3)
        have e4 := (hbel.cell (p := ⟨b, off + i * 6 + 4, none⟩) hbT).trans ((hb1.cell (p := ⟨b, off + i * 6 + 4, none⟩) hbb).trans o1.c4)
        have e5 := (hbel.cell (p := ⟨b, off + i * 6 + 5, none⟩) hbT).trans ((hb1.cell (p := ⟨b, off + i * 6 + 5, none⟩) hbb).trans o1.c5)
        have HBS : Hid ((V i).bl = 0 ∨ ∃ b off, (V i).bo = some ⟨b, off, none⟩ ∧ b < W1.heap.size ∧ ∀ j, j < (V i).bl → wr.cell? ⟨b, off + j, none⟩ = some (.int .u8 ((V i).bg j))) := by
          rcases o1.bs.bs with h | ⟨b', off', h1, h2⟩
          · exact .inl h
          · by_cases hz : (V i).bl = 0
            · exact .inl hz
            · have hlt' := o1.bs.lt b' off' (by omega) h1
              exact .inr ⟨b', off', h1, Nat.lt_trans hlt' HPT.out, fun j hj => (hbel.cell (p := ⟨b', off' + j, none⟩) (Nat.lt_trans hlt' HPT.out)).trans ((hb1.cell (p := ⟨b', off' + j, none⟩) hlt').trans (h2 j hj))⟩
        have HNI : Hid ((V i).bo = none → (V i).bl = 0 ∧ (V i).bc = 0) := o1.bs.nil
        have HFI : Hid (Mm.Fit (V i).bg) := o1.bs.fit
        have HF1 : Hid (OpFit (V i)) := f1
        clear o1 f1 HV HO
        by_cases h4 : (4000 : Int) < (V i).bl
        · go_wp2
          go_ret
          exact ⟨rfl, FIN.out _ hbel⟩
        · have h4' : ((V i).bl : Int) ≤ 4000 := by omega
          go_wp2_with (go_at_call 11; refine (one_any (V i) HF1.out hp HS2.out h4' HNI.out HFI.out HBS.out).mono ?_; rintro e w5 ⟨rfl, hp5, hb5⟩)
          go_roundw
          case rel => exact ⟨i + 1, by go_num, by omega, hp5, hbel.trans hb5⟩
          case measure => simp [intOf]; omega
      · clear HO
        have hSM : (S : Int) - 4096 = (M : Int) := by have := HMS.out; omega
        have hSM2 : S - 4096 = M := by have := HMS.out; omega
        have hwM : wrap64 ((M : Nat) : Int) = (M : Int) := by have := HMS.out; have := HS2.out; unfold wrap64; omega
        go_wp2_with fail
        refine (get_rest hp HS2.out HMS.out hMpos).mono ?_
        rintro e W5 ⟨rfl, ho5, hg5⟩
        have p5 := hp.none hg5
        have cr := p5.hr.cell
        have hb5 := hbel.grown hg5 hbel.size (by simp)
        have j1 : (4096 : Int) ≤ (S : Int) := by have := HS1.out; omega
        have j2 : (4096 : Int) < (S : Int) := by have := HS1.out; omega
        generalize wr.heap.size = T at *
        go_wp2_with (first
          | (go_at_call 7; refine (num_any _ _).mono ?_; rintro e w6 ⟨rfl, rfl⟩)
          | (go_at_call 13; refine (eq_rest p5 HS2.out HMS.out ho5 _).mono ?_; rintro e w6 ⟨rfl, d, rfl⟩)
          | (go_at_call 8; refine (wakes_any _).mono ?_; rintro e w7 ⟨rfl, hg7⟩))
        go_ret
        exact ⟨rfl, FIN.out _ ((below_drewN hb5 d).grown hg7 (Nat.le_trans p5.size (Nat.le_refl _)) (by simp))⟩
    · clear HO
      have hSM : (S : Int) - 4096 = (M : Int) := by have := HMS.out; omega
      have hSM2 : S - 4096 = M := by have := HMS.out; omega
      have hwM : wrap64 ((M : Nat) : Int) = (M : Int) := by have := HMS.out; have := HS2.out; unfold wrap64; omega
      go_wp2_with fail
      refine (get_rest hp HS2.out HMS.out hMpos).mono ?_
      rintro e W5 ⟨rfl, ho5, hg5⟩
      have p5 := hp.none hg5
      have cr := p5.hr.cell
      have hb5 := hbel.grown hg5 hbel.size (by simp)
      have j1 : (4096 : Int) ≤ (S : Int) := by have := HS1.out; omega
      have j2 : (4096 : Int) < (S : Int) := by have := HS1.out; omega
      generalize wr.heap.size = T at *
      go_wp2_with (first
        | (go_at_call 7; refine (num_any _ _).mono ?_; rintro e w6 ⟨rfl, rfl⟩)
        | (go_at_call 13; refine (eq_rest p5 HS2.out HMS.out ho5 _).mono ?_; rintro e w6 ⟨rfl, d, rfl⟩)
        | (go_at_call 8; refine (wakes_any _).mono ?_; rintro e w7 ⟨rfl, hg7⟩))
      go_ret
      exact ⟨rfl, FIN.out _ ((below_drewN hb5 d).grown hg7 (Nat.le_trans p5.size (Nat.le_refl _)) (by simp))⟩

theorem memExact_walk (s : Int) (a0 : Option Addr) (len cap : Nat) (V : Nat → OpV) (w : World) (hop : IsOps w a0 len cap V) :
    Calls Try.prog 3 #[.agg #[.int .i64 s, .slice a0 len cap]] w fun e w' => e = .returned (.bool true) ∧ Below w.heap.size w w' := by
  by_cases h : s < 8192 ∨ 1048576 < s
  · exact memExact_out s a0 len cap w h
  · obtain ⟨S, rfl⟩ := Int.eq_ofNat_of_zero_le (show 0 ≤ s from by omega)
    exact memExact_in S a0 len cap V w hop (by omega) (by omega)

end Go.Proofs.Ytnedflpcfpkbnaa
