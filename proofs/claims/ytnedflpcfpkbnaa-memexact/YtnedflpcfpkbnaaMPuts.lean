/- gantrylaw2.one: Put by both memories. -/
import Derived.Test.YtnedflpcfpkbnaaMGets
namespace Go.Proofs.Ytnedflpcfpkbnaa
open Go.RowKit
set_option linter.unusedVariables false

variable {N S : Nat} {w w' : World} {Bm Dm Br Dr : Nat} {f f' : Nat → Int} {row : Option Nat}

set_option maxRecDepth 100000 in
set_option maxHeartbeats 4000000 in
theorem one_put (op k n a x : Int) (bo : Option Addr) (bl bc : Nat) (bg : Nat → Int) (h : Pair N S w Bm Dm Br Dr f) (hS : (S : Int) ≤ 1048576) (a1 : 0 ≤ a) (a2 : a < 18446744073709551616)
    (o0 : (op == 0) = false) (o1 : (op == 1) = false) (o2 : (op == 2) = false) (hbl : (bl : Int) ≤ 4000) (hnil : bo = none → bl = 0 ∧ bc = 0) (hfit : Mm.Fit bg)
    (hbs : bl = 0 ∨ ∃ b off, bo = some ⟨b, off, none⟩ ∧ b < N ∧ ∀ i, i < bl → w.cell? ⟨b, off + i, none⟩ = some (.int .u8 (bg i))) :
    Calls Try.prog 11 #[.pointer (some ⟨Bm, 0, none⟩), .pointer (some ⟨Br, 0, none⟩), .agg #[.int .i64 op, .int .i64 k, .int .i64 n, .int .u64 a, .int .u64 x, .slice bo bl bc]] w fun e w' =>
      e = .returned (.bool true) ∧ (∃ f', Pair N S w' Bm Dm Br Dr f') ∧ Below N w w' := by
  obtain ⟨o, ho⟩ : ∃ o, o = Obj.cells #[.int .i64 op, .int .i64 k, .int .i64 n, .int .u64 a, .int .u64 x, .slice bo bl bc] 38 := ⟨_, rfl⟩
  have h1 := h.alloc o
  have hb1 : Below N w (w.alloc o) := (Below.refl N w).alloc h.size o
  have c3 : (w.alloc o).cell? ⟨w.heap.size, 3, none⟩ = some (.int .u64 a) := by rw [ho]; simp
  have c5 : (w.alloc o).cell? ⟨w.heap.size, 5, none⟩ = some (.slice bo bl bc) := by rw [ho]; simp
  have HP : Hid (w.heap.size ≠ Dm) := fun e => (h.later (Nat.le_refl _)).2.1 e.symm
  have HPT : Hid (w.heap.size < (w.alloc o).heap.size) := World.block_lt_of_cell? _ _ c3
  have HBS : Hid (bl = 0 ∨ ∃ b off, bo = some ⟨b, off, none⟩ ∧ b < N ∧ ∀ i, i < bl → w.cell? ⟨b, off + i, none⟩ = some (.int .u8 (bg i))) := hbs
  have HNIL : Hid (bo = none → bl = 0 ∧ bc = 0) := hnil
  have HF : Hid (Mm.Fit bg) := hfit
  clear hbs hnil hfit
  subst ho
  go_enter Try.func11, Try.ntmps11
  go_wp2_with fail
  generalize w.alloc (Obj.cells #[.int .i64 op, .int .i64 k, .int .i64 n, .int .u64 a, .int .u64 x, .slice bo bl bc] 38) = W1 at *
  clear h
  have hB1 : Bs W1 bo bl bg := by
    rcases HBS.out with h0 | ⟨b, off, rfl, hbN, hc⟩
    · exact .inl h0
    · exact .inr ⟨b, off, rfl, fun i hi => (hb1.cell (p := ⟨b, off + i, none⟩) hbN).trans (hc i hi)⟩
  refine (copyB bl bc bo bg W1 (by omega) HNIL.out hB1).mono ?_
  rintro e W2 ⟨v, rfl, ho2, hg2⟩
  have p2 := h1.none hg2
  have hb2 := hb1.grown hg2 h1.size (by simp)
  have e3 : W2.cell? ⟨w.heap.size, 3, none⟩ = some (.int .u64 a) := hg2.cell c3 (by simp)
  have e5 : W2.cell? ⟨w.heap.size, 5, none⟩ = some (.slice bo bl bc) := hg2.cell c5 (by simp)
  have HT : Hid (W1.heap.size ≤ W2.heap.size) := hg2.size
  have HLA : Hid (∀ b, W1.heap.size ≤ b → Bm ≠ b ∧ Dm ≠ b ∧ Br ≠ b ∧ Dr ≠ b) := fun b hb => h1.later hb
  have hNT : N ≤ W1.heap.size := h1.size
  obtain ⟨ao, vc, hv, hvn, hvl, hvm, hvb⟩ := ho2.shape
  have HVB : Hid (Bs W2 ao bl bg) := hvb
  have HOL : Hid (∀ q, v.ownBlock = some q → W1.heap.size ≤ q) := fun q hq => (ho2.lt q hq).1
  subst hv
  have HO2 : Hid (OwnB W2 W1.heap.size (.slice ao bl vc) bl bg) := ho2
  generalize W1.heap.size = T at *
  clear c3 c5 h1 hb1 hg2 hB1 hvn hvl hvm hvb ho2
  by_cases h0 : bl = 0
  · subst h0
    have HG : Mm.gotB S a 0 = true := rfl
    have hm2 := p2.hm
    go_wp2_with (first
      | (go_at_call 25; refine (put_none _ _ _ vc ao _ a _ hm2).mono ?_; rintro e w2 ⟨rfl, rfl⟩)
      | (go_at_call 7; refine (num_any _ _).mono ?_; rintro e w2 ⟨rfl, rfl⟩))
    refine (eq_none _ _ _ _ _).mono ?_
    rintro e w3 ⟨rfl, d, rfl⟩
    go_wp2_with fail
    refine (spoilB T 0 _ bg (w2.drewN d) (by decide) HT.out HO2.out).mono ?_
    rintro e W5 ⟨rfl, hg5⟩
    have hne : ∀ q, (Value.slice ao 0 vc).ownBlock = some q → T ≤ q := HOL.out
    have p5 := (p2.drewN d).kept hg5 (fun q e => HLA.out q (hne q e))
    have hb5 := (below_drewN hb2 d).grown hg5 p2.size (fun q e => Nat.le_trans hNT (hne q e))
    have g3 : W5.cell? ⟨w.heap.size, 3, none⟩ = some (.int .u64 a) := hg5.cell (w := w2.drewN d) e3 (fun e => by have := hne _ e.symm; have := HPT.out; simp only [] at *; omega)
    have g5 : W5.cell? ⟨w.heap.size, 5, none⟩ = some (.slice bo 0 bc) := hg5.cell (w := w2.drewN d) e5 (fun e => by have := hne _ e.symm; have := HPT.out; simp only [] at *; omega)
    have hr5 := p5.hr
    clear hg5 hne HO2 HVB e3 e5 p2 hb2 hm2
    go_wp2_with (first
      | (go_at_call 22; refine (rhas_any _ _ _ _ _ _ _ hr5 hS a1 a2 (by decide) (by decide)).mono ?_; rintro e w6 ⟨rfl, rfl⟩)
      | (go_at_call 26; refine (rput_none _ _ _ bc bo _ a _ hr5).mono ?_; rintro e w6 ⟨rfl, rfl⟩))
    go_ret
    exact ⟨rfl, ⟨_, p5⟩, hb5⟩
  · obtain ⟨b, off, rfl, hbN, hsrc⟩ : ∃ b off, bo = some ⟨b, off, none⟩ ∧ b < N ∧ ∀ i, i < bl → w.cell? ⟨b, off + i, none⟩ = some (.int .u8 (bg i)) := by
      rcases HBS.out with h | h
      · exact absurd h h0
      · exact h
    have hpos : 0 < bl := by omega
    obtain ⟨b', o', rfl, hva⟩ := HVB.out.at hpos
    have HBN : Hid (b < N) := hbN
    have HSRC : Hid (∀ i, i < bl → w.cell? ⟨b, off + i, none⟩ = some (.int .u8 (bg i))) := hsrc
    have HVA : Hid (∀ i, i < bl → W2.cell? ⟨b', o' + i, none⟩ = some (.int .u8 (bg i))) := hva
    have hb'T : T ≤ b' := HOL.out b' rfl
    have n0 : (((bl : Nat) : Int) == 0) = false := by simp; omega
    have n2 : (bl : Int) ≤ 9223372036854775807 := by omega
    have n1 : -9223372036854775808 ≤ (bl : Int) := by omega
    clear HBS HNIL HVB HOL hbN hsrc hva h0
    cases h2 : Mm.hasB S a bl
    · have HG : Mm.gotB S a bl = false := by unfold Mm.gotB; rw [n0, h2]; simp
      have HO : Hid (a < 4096 ∨ (S : Int) < a + bl) := Mm.has_out h2
      clear h2
      have hm2 := p2.hm
      go_wp2_with (first
        | (go_at_call 25; refine (put_out _ _ _ bl vc _ _ a _ hm2 hS a1 a2 hpos n2 HO.out).mono ?_; rintro e w2 ⟨rfl, rfl⟩)
        | (go_at_call 7; refine (num_any _ _).mono ?_; rintro e w2 ⟨rfl, rfl⟩))
      refine (eq_true bl vc bc b' o' b off bg bg _ (by omega) HVA.out (fun i hi => (hb2.cell (p := ⟨b, off + i, none⟩) HBN.out).trans (HSRC.out i hi)) (fun _ _ => rfl)).mono ?_
      rintro e w3 ⟨rfl, d, rfl⟩
      go_wp2_with fail
      refine (spoilB T bl _ bg (w2.drewN d) (by omega) HT.out HO2.out).mono ?_
      rintro e W5 ⟨rfl, hg5⟩
      have hg5 : (w2.drewN d).grownBy W5 (some b') := hg5
      have p5 := (p2.drewN d).kept hg5 (fun q e => by injection e with e; subst e; exact HLA.out _ hb'T)
      have hb5 := (below_drewN hb2 d).grown hg5 p2.size (fun q e => by injection e with e; subst e; exact Nat.le_trans hNT hb'T)
      have g3 : W5.cell? ⟨w.heap.size, 3, none⟩ = some (.int .u64 a) := hg5.cell (w := w2.drewN d) e3 (fun e => by injection e with e; have := HPT.out; simp only [] at *; omega)
      have g5 : W5.cell? ⟨w.heap.size, 5, none⟩ = some (.slice (some ⟨b, off, none⟩) bl bc) := hg5.cell (w := w2.drewN d) e5 (fun e => by injection e with e; have := HPT.out; simp only [] at *; omega)
      have hr5 := p5.hr
      clear hg5 HO2 HVA e3 e5 p2 hb2 hm2
      go_wp2_with (go_at_call 22; refine (rhas_any _ _ _ _ _ _ _ hr5 hS a1 a2 n1 n2).mono ?_; rintro e w6 ⟨rfl, rfl⟩)
      go_ret
      exact ⟨rfl, ⟨_, p5⟩, hb5⟩
    · have HG : Mm.gotB S a bl = true := by unfold Mm.gotB; rw [n0, h2]; simp; omega
      obtain ⟨ha, hs⟩ := Mm.has_in h2
      obtain ⟨A, rfl⟩ := Int.eq_ofNat_of_zero_le a1
      have hAS : A + bl ≤ S := by omega
      clear h2
      go_wp2_with fail
      refine (put_in _ _ _ bl vc b' o' f bg A W2 p2.hm hS hpos ha hAS HF.out HVA.out).mono ?_
      rintro e W3 ⟨rfl, hm3, hg3⟩
      have hr3 := p2.other hg3
      have hb3 := hb2.grown hg3 p2.size (fun q e => by injection e with e; subst e; exact p2.b2)
      have hD : Dm ≠ b' := (HLA.out _ hb'T).2.1
      have ho3 := HO2.out.kept hg3 (.inr (fun e => hD (by injection e with e; exact e.symm)))
      have HVA3 : Hid (∀ i, i < bl → W3.cell? ⟨b', o' + i, none⟩ = some (.int .u8 (bg i))) := fun i hi => hg3.cell (HVA.out i hi) (fun e => hD (by injection e with e; exact e.symm))
      have e3' : W3.cell? ⟨w.heap.size, 3, none⟩ = some (.int .u64 A) := hg3.cell e3 (fun e => HP.out (by injection e))
      have e5' : W3.cell? ⟨w.heap.size, 5, none⟩ = some (.slice (some ⟨b, off, none⟩) bl bc) := hg3.cell e5 (fun e => HP.out (by injection e))
      have HT3 : Hid (T ≤ W3.heap.size) := Nat.le_trans HT.out hg3.size
      clear e3 e5 HVA HO2
      go_wp2_with (go_at_call 7; refine (num_any _ _).mono ?_; rintro e w2 ⟨rfl, rfl⟩)
      refine (eq_true bl vc bc b' o' b off bg bg _ (by omega) HVA3.out (fun i hi => (hb3.cell (p := ⟨b, off + i, none⟩) HBN.out).trans (HSRC.out i hi)) (fun _ _ => rfl)).mono ?_
      rintro e w3 ⟨rfl, d, rfl⟩
      go_wp2_with fail
      refine (spoilB T bl _ bg (w2.drewN d) (by omega) HT3.out ho3).mono ?_
      rintro e W5 ⟨rfl, hg5⟩
      have hg5 : (w2.drewN d).grownBy W5 (some b') := hg5
      have hq := HLA.out _ hb'T
      have hm5 := (hm3.drewN d).kept hg5 (fun e => hq.1 (by injection e)) (fun e => hq.2.1 (by injection e))
      have hr5 := (hr3.drewN d).kept hg5 (fun e => hq.2.2.1 (by injection e)) (fun e => hq.2.2.2 (by injection e))
      have hb5 := (below_drewN hb3 d).grown hg5 (Nat.le_trans p2.size hg3.size) (fun q e => by injection e with e; subst e; exact Nat.le_trans hNT hb'T)
      have g3 : W5.cell? ⟨w.heap.size, 3, none⟩ = some (.int .u64 A) := hg5.cell (w := w2.drewN d) e3' (fun e => by injection e with e; have := HPT.out; simp only [] at *; omega)
      have g5 : W5.cell? ⟨w.heap.size, 5, none⟩ = some (.slice (some ⟨b, off, none⟩) bl bc) := hg5.cell (w := w2.drewN d) e5' (fun e => by injection e with e; have := HPT.out; simp only [] at *; omega)
      have HS5 : Hid (∀ i, i < bl → W5.cell? ⟨b, off + i, none⟩ = some (.int .u8 (bg i))) := fun i hi => (hb5.cell (p := ⟨b, off + i, none⟩) HBN.out).trans (HSRC.out i hi)
      have HBD : Hid (b ≠ Dr) := by have h1 := HBN.out; have h2 := p2.b4; intro e; omega
      have hsz5 : N ≤ W5.heap.size := Nat.le_trans (Nat.le_trans p2.size hg3.size) hg5.size
      clear hg5 HVA3 e3' e5' hb2 hm3 hr3 hb3 hq ho3
      go_wp2_with (first
        | (go_at_call 22; refine (rhas_any _ _ _ _ _ _ _ hr5 hS a1 a2 n1 n2).mono ?_; rintro e w6 ⟨rfl, rfl⟩)
        | (go_at_call 26; refine (rput_in _ _ _ bl bc b off _ bg A _ hr5 hS hAS HF.out HBD.out HS5.out).mono ?_; rintro e w7 ⟨rfl, hr7, hg7⟩))
      go_ret
      exact ⟨rfl, ⟨_, p2.both hm5 hg7 hr7⟩, hb5.grown hg7 hsz5 (fun q e => by injection e with e; subst e; exact p2.b4)⟩

end Go.Proofs.Ytnedflpcfpkbnaa
