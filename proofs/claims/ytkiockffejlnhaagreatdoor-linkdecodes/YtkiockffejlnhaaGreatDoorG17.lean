/- Contracts and plain facts that the walks share, text by text: LkPlaces, LkSmall, LkLab, LkJumps. -/
import Derived.Test.YtkiockffejlnhaaGreatDoorG16
/- link.places: where things begin that lie one behind the other. -/
namespace Go.Proofs.YtkiockffejlnhaaGreatDoor
open Go.RowKit
set_option linter.unusedVariables false
set_option maxRecDepth 100000 in
set_option maxHeartbeats 4000000 in
theorem places_p (x : Value) (n : Nat) (S : Nat → Int) (w : World) (hn : (n : Int) ≤ 8796093022208) (hS : ∀ k, k ≤ n → 0 ≤ Lk.pos S k ∧ Lk.pos S k ≤ 4611686018427387904)
    (hC : ∀ k, k < n → ∀ W, w.grownBy W none → Calls Tryz.prog 93 #[x, .int .i64 k] W fun e w' => e = .returned (.int .i64 (S k)) ∧ W.grownBy w' none) :
    Calls Tryz.prog 44 #[.int .i64 n, .func (.func 93) #[x] #[]] w fun e w' => e = .returned (.tuple #[.slice (some ⟨w.heap.size, 0, none⟩) n n, .int .i64 (Lk.pos S n)]) ∧
      OwnN w' w.heap.size (.slice (some ⟨w.heap.size, 0, none⟩) n n) n (Lk.pos S) ∧ w.grownBy w' none := by
  have HS : Hid (∀ k, k ≤ n → 0 ≤ Lk.pos S k ∧ Lk.pos S k ≤ 4611686018427387904) := hS
  have HC : Hid (∀ k, k < n → ∀ W, w.grownBy W none → Calls Tryz.prog 93 #[x, .int .i64 k] W fun e w' => e = .returned (.int .i64 (S k)) ∧ W.grownBy w' none) := hC
  clear hS hC
  obtain ⟨w1, hmk, ho1, hg1⟩ := run_make_n w n hn
  have HO1 : Hid (OwnN w1 w.heap.size (.slice (some ⟨w.heap.size, 0, none⟩) n n) n (fun _ => 0)) := ho1
  have HG1 : Hid (w.grownBy w1 none) := hg1
  clear ho1 hg1
  go_enter Tryz.func44, Tryz.ntmps44
  go_wp2_with fail
  go_loopw [7, 13] (fun e i wr => ∃ k : Nat, i = .int .i64 k ∧ e = .int .i64 (Lk.pos S k) ∧ k ≤ n ∧ OwnN wr w.heap.size (.slice (some ⟨w.heap.size, 0, none⟩) n n) n (fun i => if i < k then Lk.pos S i else 0) ∧ w.grownBy wr none) (fun _ i _ => n - (intOf i).toNat)
  case atStart => exact ⟨0, rfl, rfl, Nat.zero_le _, HO1.out.congr (fun i _ => by simp), HG1.out⟩
  case round =>
    obtain ⟨k, rfl, rfl, hk, ho, hg⟩ := hrel
    have HO : Hid (OwnN wr w.heap.size (.slice (some ⟨w.heap.size, 0, none⟩) n n) n (fun i => if i < k then Lk.pos S i else 0)) := ho
    have HG : Hid (w.grownBy wr none) := hg
    clear ho hg
    by_cases hkn : k < n
    · have hkn' : (k : Int) < n := by omega
      have f1 := HO.out.frozen k
      have c1 := HO.out.cell hkn
      have hb1 := HS.out k (by omega)
      have hb2 := HS.out (k + 1) (by omega)
      rw [Lk.pos_succ] at hb2
      have g2 : wr.grownBy (wr.setCell ⟨w.heap.size, k, none⟩ (.int .i64 (Lk.pos S k))) (some w.heap.size) := grown_set _ _ _ _
      have HG2 : Hid (w.grownBy (wr.setCell ⟨w.heap.size, k, none⟩ (.int .i64 (Lk.pos S k))) none) := grown_two HG.out g2 (Nat.le_refl _)
      have HO2 : Hid (OwnN (wr.setCell ⟨w.heap.size, k, none⟩ (.int .i64 (Lk.pos S k))) w.heap.size (.slice (some ⟨w.heap.size, 0, none⟩) n n) n (fun i => if i < k + 1 then Lk.pos S i else 0)) := (HO.out.set hkn _).congr (fun i hi => by
        unfold setF
        by_cases e : i = k
        · subst e; simp
        · by_cases h2 : i < k
          · simp [e, h2, show i < k + 1 by omega]
          · simp [e, h2, show ¬ i < k + 1 by omega])
      clear g2
      go_wp2_with (go_at_call 93; refine (HC.out k hkn _ HG2.out).mono ?_; rintro e w3 ⟨rfl, hg3⟩)
      go_roundw
      case rel => exact ⟨k + 1, by go_num, by rw [Lk.pos_succ], by omega, HO2.out.grow hg3, grown_trans HG2.out hg3⟩
      case measure => simp [intOf]; omega
    · obtain rfl : k = n := by omega
      go_wp2
      go_ret2
      exact ⟨rfl, HO.out.congr (fun i hi => by simp [hi]), HG.out⟩
set_option maxRecDepth 100000 in
set_option maxHeartbeats 4000000 in
theorem places_r (x : Value) (n : Nat) (S : Nat → Int) (w : World) (hn : (n : Int) ≤ 8796093022208) (hS : ∀ k, k ≤ n → 0 ≤ Lk.pos S k ∧ Lk.pos S k ≤ 4611686018427387904)
    (hC : ∀ k, k < n → ∀ W, w.grownBy W none → Calls Tryz.prog 45 #[x, .int .i64 k] W fun e w' => e = .returned (.int .i64 (S k)) ∧ W.grownBy w' none) :
    Calls Tryz.prog 44 #[.int .i64 n, .func (.func 45) #[x] #[]] w fun e w' => e = .returned (.tuple #[.slice (some ⟨w.heap.size, 0, none⟩) n n, .int .i64 (Lk.pos S n)]) ∧
      OwnN w' w.heap.size (.slice (some ⟨w.heap.size, 0, none⟩) n n) n (Lk.pos S) ∧ w.grownBy w' none := by
  have HS : Hid (∀ k, k ≤ n → 0 ≤ Lk.pos S k ∧ Lk.pos S k ≤ 4611686018427387904) := hS
  have HC : Hid (∀ k, k < n → ∀ W, w.grownBy W none → Calls Tryz.prog 45 #[x, .int .i64 k] W fun e w' => e = .returned (.int .i64 (S k)) ∧ W.grownBy w' none) := hC
  clear hS hC
  obtain ⟨w1, hmk, ho1, hg1⟩ := run_make_n w n hn
  have HO1 : Hid (OwnN w1 w.heap.size (.slice (some ⟨w.heap.size, 0, none⟩) n n) n (fun _ => 0)) := ho1
  have HG1 : Hid (w.grownBy w1 none) := hg1
  clear ho1 hg1
  go_enter Tryz.func44, Tryz.ntmps44
  go_wp2_with fail
  go_loopw [7, 13] (fun e i wr => ∃ k : Nat, i = .int .i64 k ∧ e = .int .i64 (Lk.pos S k) ∧ k ≤ n ∧ OwnN wr w.heap.size (.slice (some ⟨w.heap.size, 0, none⟩) n n) n (fun i => if i < k then Lk.pos S i else 0) ∧ w.grownBy wr none) (fun _ i _ => n - (intOf i).toNat)
  case atStart => exact ⟨0, rfl, rfl, Nat.zero_le _, HO1.out.congr (fun i _ => by simp), HG1.out⟩
  case round =>
    obtain ⟨k, rfl, rfl, hk, ho, hg⟩ := hrel
    have HO : Hid (OwnN wr w.heap.size (.slice (some ⟨w.heap.size, 0, none⟩) n n) n (fun i => if i < k then Lk.pos S i else 0)) := ho
    have HG : Hid (w.grownBy wr none) := hg
    clear ho hg
    by_cases hkn : k < n
    · have hkn' : (k : Int) < n := by omega
      have f1 := HO.out.frozen k
      have c1 := HO.out.cell hkn
      have hb1 := HS.out k (by omega)
      have hb2 := HS.out (k + 1) (by omega)
      rw [Lk.pos_succ] at hb2
      have g2 : wr.grownBy (wr.setCell ⟨w.heap.size, k, none⟩ (.int .i64 (Lk.pos S k))) (some w.heap.size) := grown_set _ _ _ _
      have HG2 : Hid (w.grownBy (wr.setCell ⟨w.heap.size, k, none⟩ (.int .i64 (Lk.pos S k))) none) := grown_two HG.out g2 (Nat.le_refl _)
      have HO2 : Hid (OwnN (wr.setCell ⟨w.heap.size, k, none⟩ (.int .i64 (Lk.pos S k))) w.heap.size (.slice (some ⟨w.heap.size, 0, none⟩) n n) n (fun i => if i < k + 1 then Lk.pos S i else 0)) := (HO.out.set hkn _).congr (fun i hi => by
        unfold setF
        by_cases e : i = k
        · subst e; simp
        · by_cases h2 : i < k
          · simp [e, h2, show i < k + 1 by omega]
          · simp [e, h2, show ¬ i < k + 1 by omega])
      clear g2
      go_wp2_with (go_at_call 45; refine (HC.out k hkn _ HG2.out).mono ?_; rintro e w3 ⟨rfl, hg3⟩)
      go_roundw
      case rel => exact ⟨k + 1, by go_num, by rw [Lk.pos_succ], by omega, HO2.out.grow hg3, grown_trans HG2.out hg3⟩
      case measure => simp [intOf]; omega
    · obtain rfl : k = n := by omega
      go_wp2
      go_ret2
      exact ⟨rfl, HO.out.congr (fun i hi => by simp [hi]), HG.out⟩
end Go.Proofs.YtkiockffejlnhaaGreatDoor

/- link's parts in a row: where they begin, whether they are too large; over, labelMayBe, marksMayBe, encoderOf. -/
namespace Go.Proofs.YtkiockffejlnhaaGreatDoor
open Go.RowKit
set_option linter.unusedVariables false
theorem run_mkf (fn : Fn) (first cap : Array Value) (w : World) : (Instr.makeFunc fn first cap).run Tryz.prog w = .ok (.func fn first cap) w := rfl
set_option maxRecDepth 100000 in
set_option maxHeartbeats 4000000 in
theorem pplaces_any {N : Nat} {w : World} {B fe : Nat} {P : Lk.PcV} {ia ma : Option Addr} {ic mc : Nat} {sv : Value} {base : Nat} {S : Nat → Int} (h : Pt N w B fe P ia ma ic mc sv) (ho : OwnN w base sv P.n S) (hn : (P.n : Int) ≤ 8796093022208) (hS : ∀ k, k ≤ P.n → 0 ≤ Lk.pos S k ∧ Lk.pos S k ≤ 4611686018427387904) :
    Calls Tryz.prog 63 #[.pointer (some ⟨B, 0, none⟩)] w fun e w' => e = .returned (.tuple #[.slice (some ⟨w.heap.size, 0, none⟩) P.n P.n, .int .i64 (Lk.pos S P.n)]) ∧
      OwnN w' w.heap.size (.slice (some ⟨w.heap.size, 0, none⟩) P.n P.n) P.n (Lk.pos S) ∧ w.grownBy w' none := by
  have HC : Hid (∀ k, k < P.n → ∀ W, w.grownBy W none → Calls Tryz.prog 93 #[.pointer (some ⟨B, 0, none⟩), .int .i64 k] W fun e w' => e = .returned (.int .i64 (S k)) ∧ W.grownBy w' none) := fun k hk W hW => (psize_any (h.grow hW) (ho.grow hW) hk).mono (by rintro e w' ⟨rfl, rfl⟩; exact ⟨rfl, World.grownBy.refl _ _⟩)
  have HS : Hid (∀ k, k ≤ P.n → 0 ≤ Lk.pos S k ∧ Lk.pos S k ≤ 4611686018427387904) := hS
  have c1 := h.c1
  clear hS h ho
  generalize P.n = n at *
  have hmf := run_mkf
  go_enter Tryz.func63, Tryz.ntmps63
  go_wp2_with (go_at_call 44; refine (places_p _ n S _ hn HS.out HC.out).mono ?_; rintro e w1 ⟨rfl, ho1, hg1⟩)
  go_ret2
  exact ⟨rfl, ho1, hg1⟩
structure PtA where
  B : Nat
  T : Nat
  ia : Option Addr
  ic : Nat
  ma : Option Addr
  mc : Nat
structure Rw (N : Nat) (w : World) (rv : Value) (K fe : Nat) (V : Nat → Lk.PcV) (A : Nat → PtA) (S : Nat → Nat → Int) : Prop where
  own : w.ownsRow N 59 1 rv K ((List.range K).map fun k => Value.pointer (some ⟨(A k).B, 0, none⟩))
  pt : ∀ k, k < K → Pt N w (A k).B fe (V k) (A k).ia (A k).ma (A k).ic (A k).mc (.slice (some ⟨(A k).T, 0, none⟩) (V k).n (V k).n)
  sz : ∀ k, k < K → OwnN w N (.slice (some ⟨(A k).T, 0, none⟩) (V k).n (V k).n) (V k).n (S k)
  dis : ∀ j k, j < K → k < K → j ≠ k → (A j).T ≠ (A k).T
theorem Rw.ch {N : Nat} {w w' : World} {rv : Value} {K fe : Nat} {V : Nat → Lk.PcV} {A : Nat → PtA} {S : Nat → Nat → Int} {l : List Nat} (h : Rw N w rv K fe V A S) (hg : Ch w w' l) (hl : ∀ k, k ∈ l → N ≤ k) (hR : ∀ k, rv.ownBlock = some k → k ∉ l) (hB : ∀ k, k < K → (A k).B ∉ l) (hT : ∀ k, k < K → (A k).T ∉ l) : Rw N w' rv K fe V A S where
  own := ownsRow_ch h.own hg hR
  pt := fun k hk => (h.pt k hk).ch hg hl (hB k hk)
  sz := fun k hk => (h.sz k hk).ch hg (fun b hb => by simp [Value.ownBlock] at hb; subst hb; exact hT k hk)
  dis := h.dis
theorem Rw.grow {N : Nat} {w w' : World} {rv : Value} {K fe : Nat} {V : Nat → Lk.PcV} {A : Nat → PtA} {S : Nat → Nat → Int} (h : Rw N w rv K fe V A S) (hg : w.grownBy w' none) : Rw N w' rv K fe V A S :=
  h.ch (l := []) (Ch.of hg) (by simp) (by simp) (by simp) (by simp)
theorem Rw.slice {N : Nat} {w : World} {rv : Value} {K fe : Nat} {V : Nat → Lk.PcV} {A : Nat → PtA} {S : Nat → Nat → Int} (h : Rw N w rv K fe V A S) : ∃ a c, rv = .slice a K c ∧ K ≤ c ∧ c ≤ maxLen ∧ (0 < K → ∃ R, a = some ⟨R, 0, none⟩ ∧ ∀ k, k < K → w.cell? ⟨R, k, none⟩ = some (.pointer (some ⟨(A k).B, 0, none⟩))) := by
  rcases h.own.2 with ⟨rfl, h0⟩ | ⟨T, c, cur, rfl, e2, e3, e4, e5, _⟩
  · exact ⟨none, 0, by rw [h0], by omega, Nat.zero_le _, fun h => by omega⟩
  · refine ⟨some ⟨T, 0, none⟩, c, rfl, e4, e5, fun _ => ⟨T, rfl, fun k hk => ?_⟩⟩
    rw [World.ownsRow.cellAt h.own k (by omega), List.getElem?_map, List.getElem?_range hk]
    rfl
structure Lim (K : Nat) (V : Nat → Lk.PcV) (S : Nat → Nat → Int) : Prop where
  n : ∀ k, k < K → ((V k).n : Int) ≤ 8796093022208
  s : ∀ k, k < K → ∀ i, i < (V k).n → 0 ≤ S k i ∧ S k i ≤ 40
theorem pos_lim {s : Nat → Int} {B : Int} : ∀ {n : Nat}, (∀ i, i < n → 0 ≤ s i ∧ s i ≤ B) → 0 ≤ Lk.pos s n ∧ Lk.pos s n ≤ B * n
  | 0, _ => by simp [Lk.pos]
  | n + 1, h => by
    have h1 := pos_lim (n := n) (fun i hi => h i (by omega))
    have h2 := h n (by omega)
    rw [Lk.pos_succ, show ((n + 1 : Nat) : Int) = (n : Int) + 1 by omega, Int.mul_add]
    omega
theorem Lim.part {K : Nat} {V : Nat → Lk.PcV} {S : Nat → Nat → Int} (h : Lim K V S) {k : Nat} (hk : k < K) : ∀ i, i ≤ (V k).n → 0 ≤ Lk.pos (S k) i ∧ Lk.pos (S k) i ≤ 351843720888320 := fun i hi => by
  have := pos_lim (n := i) (s := S k) (B := 40) (fun j hj => h.s k hk j (by omega))
  have := h.n k hk
  omega
def ends (V : Nat → Lk.PcV) (S : Nat → Nat → Int) (k : Nat) : Int := Lk.pos (S k) (V k).n
theorem Lim.row {K : Nat} {V : Nat → Lk.PcV} {S : Nat → Nat → Int} (h : Lim K V S) (hK : K ≤ 33) : ∀ k, k ≤ K → 0 ≤ Lk.pos (ends V S) k ∧ Lk.pos (ends V S) k ≤ 11610842789314560 := fun k hk => by
  have := pos_lim (n := k) (s := ends V S) (B := 351843720888320) (fun j hj => h.part (k := j) (by omega) _ (Nat.le_refl _))
  omega
set_option maxRecDepth 100000 in
set_option maxHeartbeats 4000000 in
theorem rwsize_any {N : Nat} {w : World} {rv : Value} {K fe : Nat} {V : Nat → Lk.PcV} {A : Nat → PtA} {S : Nat → Nat → Int} (h : Rw N w rv K fe V A S) (hl : Lim K V S) {k : Nat} (hk : k < K) :
    Calls Tryz.prog 45 #[rv, .int .i64 k] w fun e w' => e = .returned (.int .i64 (ends V S k)) ∧ w.grownBy w' none := by
  have hk' : (k : Int) < K := by omega
  obtain ⟨a, c, rfl, hc, hcm, ha⟩ := h.slice
  obtain ⟨R, rfl, hcs⟩ := ha (by omega)
  have cc := hcs k hk
  have HP : Hid (∀ W, w.grownBy W none → Calls Tryz.prog 63 #[.pointer (some ⟨(A k).B, 0, none⟩)] W fun e w' => e = .returned (.tuple #[.slice (some ⟨W.heap.size, 0, none⟩) (V k).n (V k).n, .int .i64 (ends V S k)]) ∧ W.grownBy w' none) := fun W hW =>
    (pplaces_any ((h.pt k hk).grow hW) ((h.sz k hk).grow hW) (hl.n k hk) (fun i hi => by have := hl.part hk i hi; omega)).mono (by rintro e w' ⟨rfl, _, hg⟩; exact ⟨rfl, hg⟩)
  generalize (A k).B = B at *
  generalize (V k).n = n at *
  generalize ends V S k = E at *
  clear h hl hcs ha
  go_enter Tryz.func45, Tryz.ntmps45
  go_wp2_with (go_at_call 63; refine (HP.out _ (World.grownBy.refl _ _)).mono ?_; rintro e w1 ⟨rfl, hg1⟩)
  go_ret
  exact ⟨rfl, hg1⟩
set_option maxRecDepth 100000 in
set_option maxHeartbeats 4000000 in
theorem rplaces_any {N : Nat} {w : World} {rv : Value} {K fe : Nat} {V : Nat → Lk.PcV} {A : Nat → PtA} {S : Nat → Nat → Int} (h : Rw N w rv K fe V A S) (hl : Lim K V S) (hK : K ≤ 33) :
    Calls Tryz.prog 23 #[rv] w fun e w' => e = .returned (.tuple #[.slice (some ⟨w.heap.size, 0, none⟩) K K, .int .i64 (Lk.pos (ends V S) K)]) ∧
      OwnN w' w.heap.size (.slice (some ⟨w.heap.size, 0, none⟩) K K) K (Lk.pos (ends V S)) ∧ w.grownBy w' none := by
  have HC : Hid (∀ k, k < K → ∀ W, w.grownBy W none → Calls Tryz.prog 45 #[rv, .int .i64 k] W fun e w' => e = .returned (.int .i64 (ends V S k)) ∧ W.grownBy w' none) := fun k hk W hW => rwsize_any (h.grow hW) hl hk
  have HS : Hid (∀ k, k ≤ K → 0 ≤ Lk.pos (ends V S) k ∧ Lk.pos (ends V S) k ≤ 4611686018427387904) := fun k hk => by have := hl.row hK k hk; omega
  obtain ⟨a, c, rfl, hc, hcm, ha⟩ := h.slice
  generalize ends V S = E at *
  clear h hl ha
  have hmf := run_mkf
  go_enter Tryz.func23, Tryz.ntmps23
  go_wp2_with (go_at_call 44; refine (places_r _ K E _ (by omega) HS.out HC.out).mono ?_; rintro e w1 ⟨rfl, ho1, hg1⟩)
  go_ret2
  exact ⟨rfl, ho1, hg1⟩
theorem large_any {N : Nat} {w : World} {rv : Value} {K fe : Nat} {V : Nat → Lk.PcV} {A : Nat → PtA} {S : Nat → Nat → Int} (h : Rw N w rv K fe V A S) (hl : Lim K V S) (hK : K ≤ 33) :
    Calls Tryz.prog 21 #[rv] w fun e w' => e = .returned (.bool (decide (1048576 < Lk.pos (ends V S) K))) ∧ w.grownBy w' none := by
  have HP : Hid (∀ W, w.grownBy W none → Calls Tryz.prog 23 #[rv] W fun e w' => e = .returned (.tuple #[.slice (some ⟨W.heap.size, 0, none⟩) K K, .int .i64 (Lk.pos (ends V S) K)]) ∧ W.grownBy w' none) := fun W hW => (rplaces_any (h.grow hW) hl hK).mono (by rintro e w' ⟨rfl, _, hg⟩; exact ⟨rfl, hg⟩)
  generalize Lk.pos (ends V S) K = E at *
  clear h hl
  go_enter Tryz.func21, Tryz.ntmps21
  go_wp2_with (go_at_call 23; refine (HP.out _ (World.grownBy.refl _ _)).mono ?_; rintro e w1 ⟨rfl, hg1⟩)
  go_ret
  exact ⟨rfl, hg1⟩
set_option maxRecDepth 100000 in
set_option maxHeartbeats 4000000 in
theorem pover_any {N : Nat} {w : World} {B fe : Nat} {P : Lk.PcV} {ia ma : Option Addr} {ic mc : Nat} {sv : Value} {t p : Int} (h : Pt N w B fe P ia ma ic mc sv) (hP : P.Ok t p) {j m : Nat} (hj : j < P.n) (hm : m < P.n) :
    Calls Tryz.prog 67 #[.pointer (some ⟨B, 0, none⟩), .int .i64 j, .int .i64 m] w fun e w' => e = .returned (.int .i64 (if Lk.jmpB (P.I j).op then (P.sh t).over j m else 0)) ∧ w.grownBy w' none := by
  have hj' : (j : Int) < P.n := by omega
  obtain ⟨b, off, rfl, hb, hin, hr⟩ := h.ins.at hj
  have c1 := h.c1
  have HJ : Hid (∀ W, Calls Tryz.prog 46 #[.agg #[.int .i64 (P.I j).op, .int .i64 (P.I j).a, .int .i64 (P.I j).b, .int .i64 (P.I j).c, .int .i64 (P.I j).k, .int .i64 (P.I j).sub, .int .i64 (P.I j).scale, .int .i64 (P.I j).imm, .int .i64 (P.I j).label]] W fun e w' => e = .returned (.bool (Lk.jmpB (P.I j).op)) ∧ W.grownBy w' none) := fun W => isjump_any (P.I j) W
  cases hjj : Lk.jmpB (P.I j).op
  · rw [hjj] at HJ
    obtain ⟨d0, d1, d2, d3, d4, d5, d6, d7, d8⟩ := hin
    generalize P.n = n at *
    clear h hr
    go_enter Tryz.func67, Tryz.ntmps67
    go_wp2_with (go_at_call 46; refine (HJ.out _).mono ?_; rintro e w1 ⟨rfl, hg1⟩)
    go_ret
    exact ⟨rfl, hg1⟩
  · rw [hjj] at HJ
    have hl := Lk.lab_jmp (hP.may hj).1 hjj
    have HT : Hid (∀ W, w.grownBy W none → Calls Tryz.prog 65 #[.pointer (some ⟨B, 0, none⟩), .int .i64 j] W fun e w' => e = .returned (.int .i64 (P.M (P.I j).label.toNat)) ∧ ∃ d, w' = W.drewN d) := fun W hW => ptarget_any (h.grow hW) hj hl.2.1 hl.2.2
    have hM := hP.marks (P.I j).label.toNat (by omega)
    obtain ⟨x, hx⟩ : ∃ x : Nat, P.M (P.I j).label.toNat = x := ⟨(P.M (P.I j).label.toNat).toNat, by omega⟩
    rw [hx] at HT
    have ho : (P.sh t).over j m = if j < m ∧ m < x then 1 else if x ≤ m ∧ m < j then -1 else 0 := by
      have : (P.sh t).tg j = x := by show (P.M (P.I j).label.toNat).toNat = x; rw [hx]; rfl
      unfold Lk.Sh.over
      rw [this]
    obtain ⟨o, hoo⟩ : ∃ o, (P.sh t).over j m = o := ⟨_, rfl⟩
    simp only [if_true]
    rw [hoo] at ho ⊢
    have HO : Hid (o = if j < m ∧ m < x then 1 else if x ≤ m ∧ m < j then -1 else 0) := ho
    clear ho hoo hx hM hl hP
    obtain ⟨d0, d1, d2, d3, d4, d5, d6, d7, d8⟩ := hin
    generalize P.n = n at *
    clear h hr
    go_enter Tryz.func67, Tryz.ntmps67
    go_wp2_with (first | (go_at_call 46; refine (HJ.out _).mono ?_; rintro e w1 ⟨rfl, hg1⟩) | (go_at_call 65; refine (HT.out _ hg1).mono ?_; rintro e w2 ⟨rfl, d, rfl⟩))
    all_goals (
      go_ret
      refine ⟨?_, grown_drewN hg1 d⟩
      rw [HO.out]
      first
      | (rw [if_pos (by omega)]; rfl)
      | (rw [if_neg (by omega), if_pos (by omega)]; rfl)
      | (rw [if_neg (by omega), if_neg (by omega)]; rfl))
end Go.Proofs.YtkiockffejlnhaaGreatDoor

/- link's labelMayBe. -/
namespace Go.Proofs.YtkiockffejlnhaaGreatDoor
open Go.RowKit
set_option linter.unusedVariables false
set_option maxRecDepth 100000 in
set_option maxHeartbeats 4000000 in
theorem plabel_any {N : Nat} {w : World} {B fe : Nat} {P : Lk.PcV} {ia ma : Option Addr} {ic mc : Nat} {sv : Value} (h : Pt N w B fe P ia ma ic mc sv) (v : InV) (p : Int) :
    Calls Tryz.prog 62 #[.pointer (some ⟨B, 0, none⟩), .agg #[.int .i64 v.op, .int .i64 v.a, .int .i64 v.b, .int .i64 v.c, .int .i64 v.k, .int .i64 v.sub, .int .i64 v.scale, .int .i64 v.imm, .int .i64 v.label], .int .i64 p] w fun e w' => e = .returned (.bool (Lk.labB P.m p v)) ∧ w.grownBy w' none := by
  have HJ : Hid (∀ W, Calls Tryz.prog 46 #[.agg #[.int .i64 v.op, .int .i64 v.a, .int .i64 v.b, .int .i64 v.c, .int .i64 v.k, .int .i64 v.sub, .int .i64 v.scale, .int .i64 v.imm, .int .i64 v.label]] W fun e w' => e = .returned (.bool (Lk.jmpB v.op)) ∧ W.grownBy w' none) := fun W => isjump_any v W
  have HK : Hid (∀ W, Calls Tryz.prog 48 #[.agg #[.int .i64 v.op, .int .i64 v.a, .int .i64 v.b, .int .i64 v.c, .int .i64 v.k, .int .i64 v.sub, .int .i64 v.scale, .int .i64 v.imm, .int .i64 v.label]] W fun e w' => e = .returned (.bool (v.op == 23)) ∧ W.grownBy w' none) := fun W => iscall_any v W
  have c2 : (w.alloc (.cells #[.int .i64 v.op, .int .i64 v.a, .int .i64 v.b, .int .i64 v.c, .int .i64 v.k, .int .i64 v.sub, .int .i64 v.scale, .int .i64 v.imm, .int .i64 v.label] 50)).cell? ⟨B, 2, none⟩ = some (.slice ma P.m mc) := (World.grownBy_alloc w _ none).cell h.c2 (by simp)
  have IN := InstAt.new w v
  generalize hm : P.m = m at *
  clear h hm
  have hA := World.grownBy_alloc w (.cells #[.int .i64 v.op, .int .i64 v.a, .int .i64 v.b, .int .i64 v.c, .int .i64 v.k, .int .i64 v.sub, .int .i64 v.scale, .int .i64 v.imm, .int .i64 v.label] 50) none
  cases hj : Lk.jmpB v.op
  · rw [hj] at HJ
    cases hc : v.op == 23
    · rw [hc] at HK
      have HL : Hid (Lk.labB m p v = (v.label == 0)) := by show _ = _; unfold Lk.labB; rw [if_neg (by rw [hj]; decide), if_neg (by simpa using hc)]
      clear hj hc
      go_enter Tryz.func62, Tryz.ntmps62
      go_wp2_with (first | (go_at_call 46; refine (HJ.out _).mono ?_; rintro e w1 ⟨rfl, hg1⟩; obtain ⟨d0, d1, d2, d3, d4, d5, d6, d7, d8, dz⟩ := IN.kept hg1 (by simp)) | (go_at_call 48; refine (HK.out _).mono ?_; rintro e w2 ⟨rfl, hg2⟩; obtain ⟨e0, e1, e2, e3, e4, e5, e6, e7, e8, ez⟩ := (IN.kept hg1 (by simp)).kept hg2 (by simp)))
      go_ret
      rw [HL.out]
      exact ⟨rfl, grown_trans hA (grown_trans hg1 hg2)⟩
    · rw [hc] at HK
      have HL : Hid (Lk.labB m p v = (v.imm == 0 && (decide (0 ≤ v.label) && decide (v.label < p)))) := by show _ = _; unfold Lk.labB; rw [if_neg (by rw [hj]; decide), if_pos (by simpa using hc)]
      clear hj hc
      cases h1 : v.imm == 0
      · rw [show Lk.labB m p v = false from by rw [HL.out, h1]; rfl]
        clear HL
        have h1' : v.imm ≠ 0 := by simpa using h1
        go_enter Tryz.func62, Tryz.ntmps62
        go_wp2_with (first | (go_at_call 46; refine (HJ.out _).mono ?_; rintro e w1 ⟨rfl, hg1⟩; obtain ⟨d0, d1, d2, d3, d4, d5, d6, d7, d8, dz⟩ := IN.kept hg1 (by simp)) | (go_at_call 48; refine (HK.out _).mono ?_; rintro e w2 ⟨rfl, hg2⟩; obtain ⟨e0, e1, e2, e3, e4, e5, e6, e7, e8, ez⟩ := (IN.kept hg1 (by simp)).kept hg2 (by simp)))
        go_ret
        exact ⟨rfl, grown_trans hA (grown_trans hg1 hg2)⟩
      · by_cases h2 : 0 ≤ v.label
        · rw [show Lk.labB m p v = decide (v.label < p) from by rw [HL.out, h1]; simp [h2]]
          clear HL
          have h1' : v.imm = 0 := by simpa using h1
          obtain ⟨op, a, b, c, k, sub, sc, imm, lb⟩ := v
          simp only at *
          subst h1'
          go_enter Tryz.func62, Tryz.ntmps62
          go_wp2_with (first | (go_at_call 46; refine (HJ.out _).mono ?_; rintro e w1 ⟨rfl, hg1⟩; obtain ⟨d0, d1, d2, d3, d4, d5, d6, d7, d8, dz⟩ := IN.kept hg1 (by simp)) | (go_at_call 48; refine (HK.out _).mono ?_; rintro e w2 ⟨rfl, hg2⟩; obtain ⟨e0, e1, e2, e3, e4, e5, e6, e7, e8, ez⟩ := (IN.kept hg1 (by simp)).kept hg2 (by simp)))
          go_ret
          exact ⟨rfl, grown_trans hA (grown_trans hg1 hg2)⟩
        · rw [show Lk.labB m p v = false from by rw [HL.out, h1]; simp [h2]]
          clear HL
          have h1' : v.imm = 0 := by simpa using h1
          obtain ⟨op, a, b, c, k, sub, sc, imm, lb⟩ := v
          simp only at *
          subst h1'
          have h2' : lb < 0 := by omega
          have h3' : decide (0 ≤ lb) = false := by simp [h2]
          go_enter Tryz.func62, Tryz.ntmps62
          go_wp2_with (first | (go_at_call 46; refine (HJ.out _).mono ?_; rintro e w1 ⟨rfl, hg1⟩; obtain ⟨d0, d1, d2, d3, d4, d5, d6, d7, d8, dz⟩ := IN.kept hg1 (by simp)) | (go_at_call 48; refine (HK.out _).mono ?_; rintro e w2 ⟨rfl, hg2⟩; obtain ⟨e0, e1, e2, e3, e4, e5, e6, e7, e8, ez⟩ := (IN.kept hg1 (by simp)).kept hg2 (by simp)))
          go_ret
          exact ⟨rfl, grown_trans hA (grown_trans hg1 hg2)⟩
  · rw [hj] at HJ
    have HL : Hid (Lk.labB m p v = (v.imm == 0 && (decide (0 ≤ v.label) && decide (v.label < m)))) := by show _ = _; unfold Lk.labB; rw [if_pos hj]
    clear hj
    cases h1 : v.imm == 0
    · rw [show Lk.labB m p v = false from by rw [HL.out, h1]; rfl]
      clear HL
      have h1' : v.imm ≠ 0 := by simpa using h1
      go_enter Tryz.func62, Tryz.ntmps62
      go_wp2_with (first | (go_at_call 46; refine (HJ.out _).mono ?_; rintro e w1 ⟨rfl, hg1⟩; obtain ⟨d0, d1, d2, d3, d4, d5, d6, d7, d8, dz⟩ := IN.kept hg1 (by simp); have e2 := hg1.cell c2 (by simp)))
      go_quiet (fail)
      go_wp2
      go_ret
      exact ⟨rfl, grown_drewN (grown_trans hA hg1) _⟩
    · by_cases h2 : 0 ≤ v.label
      · rw [show Lk.labB m p v = decide (v.label < m) from by rw [HL.out, h1]; simp [h2]]
        clear HL
        have h1' : v.imm = 0 := by simpa using h1
        obtain ⟨op, a, b, c, k, sub, sc, imm, lb⟩ := v
        simp only at *
        subst h1'
        go_enter Tryz.func62, Tryz.ntmps62
        go_wp2_with (first | (go_at_call 46; refine (HJ.out _).mono ?_; rintro e w1 ⟨rfl, hg1⟩; obtain ⟨d0, d1, d2, d3, d4, d5, d6, d7, d8, dz⟩ := IN.kept hg1 (by simp); have e2 := hg1.cell c2 (by simp)))
        go_quiet (fail)
        go_wp2
        go_ret
        exact ⟨rfl, grown_drewN (grown_trans hA hg1) _⟩
      · rw [show Lk.labB m p v = false from by rw [HL.out, h1]; simp [h2]]
        clear HL
        have h1' : v.imm = 0 := by simpa using h1
        obtain ⟨op, a, b, c, k, sub, sc, imm, lb⟩ := v
        simp only at *
        subst h1'
        have h2' : lb < 0 := by omega
        have h3' : decide (0 ≤ lb) = false := by simp [h2]
        go_enter Tryz.func62, Tryz.ntmps62
        go_wp2_with (first | (go_at_call 46; refine (HJ.out _).mono ?_; rintro e w1 ⟨rfl, hg1⟩; obtain ⟨d0, d1, d2, d3, d4, d5, d6, d7, d8, dz⟩ := IN.kept hg1 (by simp); have e2 := hg1.cell c2 (by simp)))
        go_quiet (fail)
        go_wp2
        go_ret
        exact ⟨rfl, grown_drewN (grown_trans hA hg1) _⟩
end Go.Proofs.YtkiockffejlnhaaGreatDoor

/- link's jumps, imms, tooFar; marksMayBe, encoderOf. -/
namespace Go.Proofs.YtkiockffejlnhaaGreatDoor
open Go.RowKit
set_option linter.unusedVariables false
theorem OwnZ.one {w : World} {base : Nat} {v : Value} {l : List Int} {x : Int} (h : w.ownsRow base 3 1 v (l.length + 1) (l.map (Value.int .i64) ++ [.int .i64 x])) : OwnZ w base v (l ++ [x]) := by
  unfold OwnZ
  simpa using h
theorem OwnZ.cast {w : World} {base : Nat} {v : Value} {l l' : List Int} (h : OwnZ w base v l) (e : l' = l) : OwnZ w base v l' := by rw [e]; exact h
theorem wp_appZ {ops : Array Oper} {rest : List Oper} {o : Oper} {a : Act} {Q : Exit → Act → World → Prop} {W : World} (hgd : o.guard = none) (s x : Operand)
    (ho : o.op = .call { callee := .builtin .append, args := #[s, x], argTypes := #[30, 30] }) (base : Nat) (v : Value) (l : List Int) (X : Int) (hs : a.eval s = v) (hown : OwnZ W base v l)
    (hx : a.eval x = .slice (some ⟨W.heap.size, 0, none⟩) 1 1) (hl : l.length ≤ 2000000) (hb : base ≤ W.heap.size)
    (h : ∀ v' w', OwnZ w' base v' (l ++ [X]) → W.grownBy w' v.ownBlock → wpList Tryz.prog ops Q rest (a.put o.dst v') w') : wpList Tryz.prog ops Q (o :: rest) a (W.alloc (Obj.cells #[.int .i64 X] 3)) := by
  obtain ⟨i, hi, hz0, hz1, hz2⟩ := info_parts info_int
  refine wpList_append_own _ hgd s x 30 ho base 3 i (.int .i64 0) 1 8 Tryz.underlying30 hi hz0 hz1 hz2 rfl (by decide) v l.length (l.map (Value.int .i64)) hs (World.ownsRow.alloc hown _) ⟨W.heap.size, 0, none⟩ 1 1 [.int .i64 X] hx rfl
    (by intro j u hj; match j, hj with | 0, hj => simp at hj; subst hj; simp [Addr.add]) (by simp; rfl) (by unfold maxLen; omega) (by omega) (by simp; omega) ?_
  intro v' w2 ho2 hg2 _
  exact h v' w2 (OwnZ.one ho2) (grown_trans (grown_noneR _ (World.grownBy_alloc _ _ _)) hg2)
theorem own_new {w w1 w2 : World} {v : Value} {row : Option Nat} (g1 : w.grownBy w1 none) (g2 : w1.grownBy w2 row) (h : ∀ b, row = some b → w.heap.size ≤ b) : w.grownBy w2 none :=
  ⟨g2.os.trans g1.os, g2.tape.trans g1.tape, g2.output.trans g1.output, Nat.le_trans g1.size g2.size, fun k hk _ => (g2.block k (Nat.lt_of_lt_of_le hk g1.size) (fun e => by have := h k e.symm; omega)).trans (g1.block k hk (by simp))⟩
namespace Lk
def marksB (P : PcV) : Bool := (List.range P.m).all fun i => decide (0 ≤ P.M i) && decide (P.M i ≤ P.n)
theorem marksB_iff {P : PcV} : marksB P = true ↔ ∀ i, i < P.m → 0 ≤ P.M i ∧ P.M i ≤ P.n := by unfold marksB; simp
def jl (P : PcV) : Nat → List Int
  | 0 => []
  | k + 1 => jl P k ++ if jmpB (P.I k).op then [(k : Int)] else []
theorem jl_len (P : PcV) : ∀ k, (jl P k).length ≤ k
  | 0 => Nat.le_refl _
  | k + 1 => by have := jl_len P k; unfold jl; rw [List.length_append]; split <;> simp <;> omega
theorem jl_mem (P : PcV) : ∀ {k : Nat} {x : Int}, x ∈ jl P k ↔ ∃ i : Nat, i < k ∧ x = i ∧ jmpB (P.I i).op = true
  | 0, x => by simp [jl]
  | k + 1, x => by
    unfold jl
    rw [List.mem_append, jl_mem P (k := k)]
    constructor
    · rintro (⟨i, h1, h2, h3⟩ | h)
      · exact ⟨i, by omega, h2, h3⟩
      · split at h
        · next hj => simp at h; exact ⟨k, by omega, h, hj⟩
        · cases h
    · rintro ⟨i, h1, h2, h3⟩
      by_cases e : i = k
      · subst e; rw [if_pos h3]; exact .inr (by simp [h2])
      · exact .inl ⟨i, by omega, h2, h3⟩
end Lk
set_option maxRecDepth 100000 in
set_option maxHeartbeats 4000000 in
theorem pmarks_any {N : Nat} {w : World} {B fe : Nat} {P : Lk.PcV} {ia ma : Option Addr} {ic mc : Nat} {sv : Value} (h : Pt N w B fe P ia ma ic mc sv) :
    Calls Tryz.prog 39 #[.pointer (some ⟨B, 0, none⟩)] w fun e w' => e = .returned (.bool (Lk.marksB P)) ∧ w' = w := by
  have c1 := h.c1
  have c2 := h.c2
  have hmax : (P.m : Int) ≤ 9223372036854775807 := by have := h.mks.max; have := h.mks.le; unfold maxLen at *; omega
  have HM : Hid (∀ i, i < P.m → ∃ b off, ma = some ⟨b, off, none⟩ ∧ b < N ∧ w.cell? ⟨b, off + i, none⟩ = some (.int .i64 (P.M i))) := fun i hi => h.mks.at hi
  have HB : Hid (∀ b : Bool, (b = true → ∀ i, i < P.m → 0 ≤ P.M i ∧ P.M i ≤ P.n) → (b = false → ∃ i, i < P.m ∧ ¬ (0 ≤ P.M i ∧ P.M i ≤ P.n)) → b = Lk.marksB P) := by
    intro b h1 h2
    cases b
    · obtain ⟨i, hi, hn⟩ := h2 rfl
      cases hb : Lk.marksB P
      · rfl
      · exact absurd (Lk.marksB_iff.1 hb i hi) hn
    · exact (Lk.marksB_iff.2 (h1 rfl)).symm
  clear h
  obtain ⟨n, hn⟩ : ∃ n, n = P.n := ⟨_, rfl⟩
  obtain ⟨m, hm⟩ : ∃ m, m = P.m := ⟨_, rfl⟩
  rw [← hn] at c1 HB
  rw [← hm] at c2 HM HB hmax
  clear hn hm
  obtain ⟨r, hr⟩ : ∃ r, r = Lk.marksB P := ⟨_, rfl⟩
  rw [← hr] at HB ⊢
  clear hr
  go_enter Tryz.func39, Tryz.ntmps39
  go_wp2
  go_loopw [10] (fun i wr => ∃ k : Nat, i = .int .i64 k ∧ k ≤ m ∧ wr = w ∧ ∀ i, i < k → 0 ≤ P.M i ∧ P.M i ≤ n) (fun i _ => m - (intOf i).toNat)
  case atStart => exact ⟨0, rfl, Nat.zero_le _, rfl, fun i hi => by omega⟩
  case round =>
    obtain ⟨k, rfl, hk, rfl, hall⟩ := hrel
    have HA : Hid (∀ i, i < k → 0 ≤ P.M i ∧ P.M i ≤ n) := hall
    clear hall
    by_cases hkm : k < m
    · have hkm' : (k : Int) < m := by omega
      obtain ⟨b, off, rfl, hb, hc⟩ := HM.out k hkm
      obtain ⟨x, hx⟩ : ∃ x, x = P.M k := ⟨_, rfl⟩
      rw [← hx] at hc
      have HX : Hid (x = P.M k) := hx
      clear hx
      by_cases h1 : 0 ≤ x
      · by_cases h2 : x ≤ n
        · go_wp2
          go_roundw
          case rel => exact ⟨k + 1, by go_num, by omega, by trivial, fun i hi => by
            by_cases e : i = k
            · subst e; rw [← HX.out]; exact ⟨h1, h2⟩
            · exact HA.out i (by omega)⟩
          case measure => simp [intOf]; omega
        · have h2' : n < x := by omega
          go_wp2
          go_ret
          rw [← HB.out false (fun h => by cases h) (fun _ => ⟨k, hkm, by rw [← HX.out]; omega⟩)]
          exact ⟨rfl, rfl⟩
      · have h1' : x < 0 := by omega
        go_wp2
        go_ret
        rw [← HB.out false (fun h => by cases h) (fun _ => ⟨k, hkm, by rw [← HX.out]; omega⟩)]
        exact ⟨rfl, rfl⟩
    · obtain rfl : k = m := by omega
      go_wp2
      go_ret
      rw [← HB.out true (fun _ i hi => HA.out i hi) (fun h => by cases h)]
      exact ⟨rfl, rfl⟩
theorem encof_r (w : World) : Calls Tryz.prog 38 #[.int .i64 1] w fun e w' => e = .returned (.tuple #[.func (.func 60) #[] #[], .bool true]) ∧ w' = w := by
  go_enter Tryz.func38, Tryz.ntmps38
  go_wp2
  go_ret2
  exact ⟨rfl, rfl⟩
theorem encof_c (w : World) : Calls Tryz.prog 38 #[.int .i64 2] w fun e w' => e = .returned (.tuple #[.func (.func 61) #[] #[], .bool true]) ∧ w' = w := by
  go_enter Tryz.func38, Tryz.ntmps38
  go_wp2
  go_ret2
  exact ⟨rfl, rfl⟩
theorem encof_no (t : Int) (h1 : (t == 1) = false) (h2 : (t == 2) = false) (w : World) : Calls Tryz.prog 38 #[.int .i64 t] w fun e w' => e = .returned (.tuple #[.nilFunc, .bool false]) ∧ w' = w := by
  go_enter Tryz.func38, Tryz.ntmps38
  go_wp2
  go_ret2
  exact ⟨rfl, rfl⟩
set_option maxRecDepth 100000 in
set_option maxHeartbeats 4000000 in
theorem pjumps_any {N : Nat} {w : World} {B fe : Nat} {P : Lk.PcV} {ia ma : Option Addr} {ic mc : Nat} {sv : Value} (h : Pt N w B fe P ia ma ic mc sv) (hn : P.n ≤ 1100000) :
    Calls Tryz.prog 64 #[.pointer (some ⟨B, 0, none⟩)] w fun e w' => ∃ v, e = .returned v ∧ OwnZ w' w.heap.size v (Lk.jl P P.n) ∧ w.grownBy w' none := by
  have c1 := h.c1
  have HI : Hid (∀ k, k < P.n → ∀ W, w.grownBy W none → ∃ b off, ia = some ⟨b, off, none⟩ ∧ b < N ∧ InAt W b (off + k * 9) (P.I k)) := fun k hk W g => by
    obtain ⟨b, off, e, hb, hi, _⟩ := (h.grow g).ins.at hk
    exact ⟨b, off, e, hb, hi⟩
  obtain ⟨n, hnn⟩ : ∃ n, n = P.n := ⟨_, rfl⟩
  rw [← hnn] at c1 HI hn ⊢
  clear h hnn
  have hn' : (n : Int) ≤ 1100000 := by omega
  go_enter Tryz.func64, Tryz.ntmps64
  go_wp2_with fail
  go_loopw [3, 11] (fun v i wr => ∃ k : Nat, i = .int .i64 k ∧ k ≤ n ∧ OwnZ wr w.heap.size v (Lk.jl P k) ∧ w.grownBy wr none) (fun _ i _ => n - (intOf i).toNat)
  case atStart => exact ⟨0, rfl, Nat.zero_le _, World.ownsRow_nil _ _ _ _, World.grownBy.refl _ _⟩
  case round =>
    obtain ⟨al, hal⟩ : ∃ al, al = u3 := ⟨_, rfl⟩
    obtain ⟨k, rfl, hk, ho, hg⟩ := hrel
    rw [← hal] at ho ⊢
    clear hal
    have HO : Hid (OwnZ wr w.heap.size al (Lk.jl P k)) := ho
    have HG : Hid (w.grownBy wr none) := hg
    by_cases hkn : k < n
    · have hkn' : (k : Int) < n := by omega
      obtain ⟨b, off, rfl, hb, hin⟩ := HI.out k hkn wr hg
      have hl := Lk.jl_len P k
      obtain ⟨v, hv⟩ : ∃ v, v = P.I k := ⟨_, rfl⟩
      rw [← hv] at hin
      have HS : Hid (Lk.jl P (k + 1) = Lk.jl P k ++ if Lk.jmpB v.op then [(k : Int)] else []) := by rw [hv]; exact rfl
      clear hv
      obtain ⟨d0, d1, d2, d3, d4, d5, d6, d7, d8⟩ := hin
      have HJ : Hid (∀ W, Calls Tryz.prog 46 #[.agg #[.int .i64 v.op, .int .i64 v.a, .int .i64 v.b, .int .i64 v.c, .int .i64 v.k, .int .i64 v.sub, .int .i64 v.scale, .int .i64 v.imm, .int .i64 v.label]] W fun e w' => e = .returned (.bool (Lk.jmpB v.op)) ∧ W.grownBy w' none) := fun W => isjump_any v W
      generalize Lk.jl P k = L at *
      obtain ⟨ao, cp, rfl, _⟩ := HO.out.slice
      have hsz : w.heap.size ≤ wr.heap.size := hg.size
      clear ho hg
      cases hjj : Lk.jmpB v.op
      · rw [hjj] at HJ HS
        go_wp2_with (go_at_call 46; refine (HJ.out _).mono ?_; rintro e w1 ⟨rfl, hg1⟩)
        have GX : wr.grownBy w1 none := grown_trans (World.grownBy_alloc _ _ _) hg1
        exact ⟨⟨k + 1, by go_num, by omega, (HO.out.grow GX).cast (by rw [HS.out]; simp), grown_trans HG.out GX⟩, by simp [intOf]; omega⟩
      · rw [hjj] at HJ HS
        go_wp2_with (first | (go_at_call 46; refine (HJ.out _).mono ?_; rintro e w1 ⟨rfl, hg1⟩; have GX : wr.grownBy w1 none := grown_trans (World.grownBy_alloc _ _ _) hg1; have HO1 : Hid (OwnZ w1 w.heap.size (.slice ao L.length cp) L) := HO.out.grow GX; have HG1 : Hid (w.grownBy w1 none) := grown_trans HG.out GX; have hs1 : w.heap.size ≤ w1.heap.size := HG1.out.size; clear GX hg1) | (at_builtin; refine wp_appZ rfl _ _ rfl w.heap.size (.slice ao L.length cp) L (k : Int) rfl HO1.out rfl (by omega) hs1 ?_; intro v' w4 ho4 hg4))
        exact ⟨⟨k + 1, by go_num, by omega, ho4.cast (by rw [HS.out]; simp), own_new (v := .nilFunc) HG1.out hg4 (HO1.out.base)⟩, by simp [intOf]; omega⟩
    · obtain rfl : k = n := by omega
      go_wp2
      go_ret
      exact ⟨_, rfl, HO.out, HG.out⟩
end Go.Proofs.YtkiockffejlnhaaGreatDoor
