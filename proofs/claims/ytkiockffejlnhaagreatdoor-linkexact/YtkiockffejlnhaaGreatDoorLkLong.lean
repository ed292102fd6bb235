/- link's lengthen. -/
import Derived.Test.YtkiockffejlnhaaGreatDoorG14
import Derived.Deep.DeepCutAuto
namespace Go.Proofs.YtkiockffejlnhaaGreatDoor
set_option maxRecDepth 100000
set_option maxHeartbeats 32000000
open Go.RowKit
set_option linter.unusedVariables false
namespace Lk
def nl (J J' : Nat → Int) (lo : Nat) : Nat → List Int
 | 0 => []
 | k + 1 => nl J J' lo k ++ if decide (lo ≤ k) && (fitB (J k) && !fitB (J' k)) then [(k : Int)] else []
theorem nl_len (J J' : Nat → Int) (lo : Nat) : ∀ k, (nl J J' lo k).length ≤ k
 | 0 => Nat.le_refl _
 | k + 1 => by have := nl_len J J' lo k; unfold nl; rw [List.length_append]; split <;> simp <;> omega
theorem nl_low (J J' : Nat → Int) (lo : Nat) : ∀ k, k ≤ lo → nl J J' lo k = []
 | 0, _ => rfl
 | k + 1, h => by unfold nl; rw [nl_low J J' lo k (by omega), if_neg (by simp; intro h; omega)]; rfl
theorem nl_mem (J J' : Nat → Int) (lo : Nat) : ∀ {k : Nat} {x : Int}, x ∈ nl J J' lo k ↔ ∃ i : Nat, i < k ∧ lo ≤ i ∧ x = i ∧ fitB (J i) = true ∧ fitB (J' i) = false
 | 0, x => by simp [nl]
 | k + 1, x => by
  unfold nl
  rw [List.mem_append, nl_mem J J' lo (k := k)]
  constructor
  ·rintro (⟨i, h1, h2⟩ | h)
   ·exact ⟨i, by omega, h2⟩
   ·split at h
    ·next hj => simp at h hj; exact ⟨k, by omega, hj.1, h, hj.2⟩
    ·cases h
  ·rintro ⟨i, h1, h2, h3, h4, h5⟩
   by_cases e : i = k
   ·subst e; rw [if_pos (by simp [h2, h4, h5])]; exact .inr (by simp [h3])
   ·exact .inl ⟨i, by omega, h2, h3, h4, h5⟩
def mid (J J' : Nat → Int) (lo k : Nat) (i : Nat) : Int := if lo ≤ i ∧ i < k then J' i else J i
theorem nl_cnt (J J' : Nat → Int) (lo : Nat) (h : ∀ i, fitB (J i) = false → J' i = J i) (n : Nat) : ∀ k, k ≤ n → cnt (mid J J' lo k) n + (nl J J' lo k).length = cnt J n
 | 0, _ => by
  have : cnt (mid J J' lo 0) n = cnt J n := cnt_congr (fun i _ => by unfold mid; simp)
  rw [this]; rfl
 | k + 1, hk => by
  have ih := nl_cnt J J' lo h n k (by omega)
  unfold nl
  rw [List.length_append]
  have hm : ∀ i, i ≠ k → fitB (mid J J' lo k i) = fitB (mid J J' lo (k + 1) i) := fun i hi => by
   unfold mid
   by_cases h1 : lo ≤ i ∧ i < k
   ·rw [if_pos h1, if_pos (by omega)]
   ·rw [if_neg h1, if_neg (by omega)]
  by_cases hc : (decide (lo ≤ k) && (fitB (J k) && !fitB (J' k))) = true
  ·rw [if_pos hc]
   simp at hc
   have e1 : fitB (mid J J' lo k k) = true := by unfold mid; rw [if_neg (by omega)]; exact hc.2.1
   have e2 : fitB (mid J J' lo (k + 1) k) = false := by unfold mid; rw [if_pos (by omega)]; exact hc.2.2
   have := cnt_drop e1 e2 (k := n) (by omega) (fun i _ hi => hm i hi)
   simp only [List.length_cons, List.length_nil]
   omega
  ·rw [if_neg hc]
   have : cnt (mid J J' lo k) n = cnt (mid J J' lo (k + 1)) n := cnt_congr (fun i _ => by
    by_cases e : i = k
    ·subst e
     unfold mid
     rw [if_neg (by omega)]
     by_cases hl : lo ≤ i
     ·rw [if_pos (by omega)]
      cases h1 : fitB (J i)
      ·rw [h i h1, h1]
      ·cases h2 : fitB (J' i)
       ·exact absurd (by simp [hl, h1, h2]) hc
       ·rfl
     ·rw [if_neg (by omega)]
    ·exact hm i e)
   rw [← this]
   simp only [List.length_nil]
   omega
end Lk
theorem chApp {w w1 w2 : World} {l : List Nat} {row : Option Nat} (h : Ch w w1 l) (hg : w1.grownBy w2 row) (hr : ∀ b, row = some b → w.heap.size ≤ b) : Ch w w2 l :=
 ⟨hg.os.trans h.os, hg.tape.trans h.tape, hg.output.trans h.output, Nat.le_trans h.size hg.size, fun k hk hl => (hg.block k (Nat.lt_of_lt_of_le hk h.size) (fun e => by have := hr k e.symm; omega)).trans (h.block k hk hl)⟩
theorem plong_r {N : Nat} {w : World} {B : Nat} {P : Lk.PcV} {ia ma : Option Addr} {ic mc T TJ : Nat} {p : Int} {L : Nat → Bool} {J : Nat → Int} {Q : Nat → Prop} (h : Pt N w B 60 P ia ma ic mc (.slice (some ⟨T, 0, none⟩) P.n P.n)) (hTab : TabAt w) (hNw : N ≤ w.heap.size) (hTN : 2 < N)
  (ho : OwnN w N (.slice (some ⟨T, 0, none⟩) P.n P.n) P.n ((P.sh 1).size L)) (hoJ : OwnN w N (.slice (some ⟨TJ, 0, none⟩) P.n P.n) P.n J) (hne : T ≠ TJ) (hBT : B ≠ T) (hBJ : B ≠ TJ) (hP : P.Ok 1 p) (hn : P.n ≤ 1100000) (st : Lk.St (P.sh 1) L J Q) {m : Nat} (hm : m < P.n) (hmj : Lk.jmpB (P.I m).op = true) (hmf : Lk.fitB (J m) = false) :
  Calls Tryz.prog 43 #[.pointer (some ⟨B, 0, none⟩), .int .i64 m, .slice (some ⟨TJ, 0, none⟩) P.n P.n] w fun e w' => ∃ v, e = .returned v ∧ OwnZ w' w.heap.size v (Lk.nl J (Lk.bump (P.sh 1) L J m) (m - 128) (min P.n (m + 129))) ∧
   OwnN w' N (.slice (some ⟨T, 0, none⟩) P.n P.n) P.n ((P.sh 1).size (Lk.with1 L m)) ∧ OwnN w' N (.slice (some ⟨TJ, 0, none⟩) P.n P.n) P.n (Lk.bump (P.sh 1) L J m) ∧ Ch w w' [T, TJ] := by
 have hT1 : N ≤ T := ho.base T rfl
 have hT2 : N ≤ TJ := hoJ.base TJ rfl
 obtain ⟨v, hv⟩ : ∃ v, v = P.I m := ⟨_, rfl⟩
 have hmay := hP.may hm
 have hlab := Lk.lab_jmp hmay.1 hmj
 rw [← hv] at hmj hmay hlab
 have hsz : (P.sh 1).size L m = (P.sh 1).g ∨ (P.sh 1).size L m = (P.sh 1).s m := by unfold Lk.Sh.size; split <;> simp
 have hlen : ((Ru.encT 1 (Lk.lead v 128)).length : Int) = Lk.long 1 := by
  rw [Lk.len_jmp hmj hmay.2 (by decide) (by decide), if_neg (by decide)]
 have hg : (P.sh 1).g = Lk.long 1 := rfl
 have hs3 : (P.sh 1).s m = if 1 = 1 then 8 else 3 := by
  show ((Ru.encT 1 (Lk.bare (P.I m))).length : Int) = _
  rw [← hv]
  exact Lk.len_short hmj hmay.2 hlab.1
 have hlong : Lk.long 1 = 8 := by decide
 have hmore : 0 ≤ Lk.long 1 - (P.sh 1).size L m ∧ Lk.long 1 - (P.sh 1).size L m ≤ 6 := by
  rcases hsz with e | e
  ·rw [e, hg]; omega
  ·rw [e, hs3, hlong]; decide
 have HLd : Hid (∀ W, Calls Tryz.prog 47 #[.agg #[.int .i64 v.op, .int .i64 v.a, .int .i64 v.b, .int .i64 v.c, .int .i64 v.k, .int .i64 v.sub, .int .i64 v.scale, .int .i64 v.imm, .int .i64 v.label], .int .i64 128] W fun e w' => e = .returned (.agg #[.int .i64 v.op, .int .i64 v.a, .int .i64 v.b, .int .i64 v.c, .int .i64 v.k, .int .i64 v.sub, .int .i64 v.scale, .int .i64 128, .int .i64 0]) ∧ W.grownBy w' none) := fun W => leading_any v 128 W
 obtain ⟨bi, offi, hia, hbi, hin, hrng⟩ := h.ins.at hm
 rw [← hv] at hin hrng
 obtain ⟨SS, hSS⟩ : ∃ SS, SS = Ru.encT 1 (Lk.lead v 128) := ⟨_, rfl⟩
 have hSl : SS.length = 8 := by rw [hSS]; rw [hlong] at hlen; omega
 have HEn : Hid (∀ W, TabAt W → Calls Tryz.prog 60 #[.agg #[.int .i64 v.op, .int .i64 v.a, .int .i64 v.b, .int .i64 v.c, .int .i64 v.k, .int .i64 v.sub, .int .i64 v.scale, .int .i64 128, .int .i64 0]] W fun e w' => ∃ T' c', e = .returned (.tuple #[.slice (some ⟨T', 0, none⟩) SS.length c', .int .i64 0]) ∧ OwnL w' W.heap.size (.slice (some ⟨T', 0, none⟩) SS.length c') SS ∧ W.grownBy w' none) := fun W hW => by
  rw [hSS]
  exact enc_r (Lk.lead v 128) W ⟨by show (-9223372036854775808 : Int) ≤ 128; decide, by show (128 : Int) ≤ 9223372036854775807; decide, hrng.s1, hrng.s2⟩ (Lk.may_lead (.inl hmj) hmay.2 (by decide) (by decide))
 clear hSS
 have HOv : Hid (∀ j, j < P.n → ∀ W l, Ch w W l → (∀ k, k ∈ l → N ≤ k) → B ∉ l → Calls Tryz.prog 67 #[.pointer (some ⟨B, 0, none⟩), .int .i64 j, .int .i64 m] W fun e w' => e = .returned (.int .i64 (if Lk.jmpB (P.I j).op then (P.sh 1).over j m else 0)) ∧ W.grownBy w' none) := fun j hj W l hW hl hB => pover_any (h.ch hW hl hB) hP hj hm
 have HOr : Hid (∀ j, (if Lk.jmpB (P.I j).op then (P.sh 1).over j m else 0) = 1 ∨ (if Lk.jmpB (P.I j).op then (P.sh 1).over j m else 0) = -1 ∨ (if Lk.jmpB (P.I j).op then (P.sh 1).over j m else 0) = 0) := fun j => by
  unfold Lk.Sh.over
  repeat' split
  all_goals simp
 have HBu : Hid (∀ j, Lk.bump (P.sh 1) L J m j = if Lk.fitB (J j) then J j + (Lk.long 1 - (P.sh 1).size L m) * (if Lk.jmpB (P.I j).op then (P.sh 1).over j m else 0) else J j) := fun j => rfl
 have HNr : Hid (∀ j, j < P.n → (j + 128 < m ∨ m + 128 < j) → Lk.bump (P.sh 1) L J m j = J j) := fun j hj hw => Lk.bump_near hP.sh st hj hw
 have HSz : Hid (∀ i, i < P.n → setF ((P.sh 1).size L) m 8 i = (P.sh 1).size (Lk.with1 L m) i) := fun i hi => by
  unfold setF Lk.Sh.size Lk.with1
  by_cases e : i = m
  ·subst e
   have : (P.sh 1).j i = true := by show Lk.jmpB (P.I i).op = true; rw [← hv]; exact hmj
   simp [this, hg, hlong]
  ·simp [e]
 have HPt : Hid (Pt N w B 60 P ia ma ic mc (.slice (some ⟨T, 0, none⟩) P.n P.n)) := h
 have HTb : Hid (TabAt w) := hTab
 have HO : Hid (OwnN w N (.slice (some ⟨T, 0, none⟩) P.n P.n) P.n ((P.sh 1).size L)) := ho
 have HJ : Hid (OwnN w N (.slice (some ⟨TJ, 0, none⟩) P.n P.n) P.n J) := hoJ
 have HTJ : Hid (TJ < w.heap.size ∧ T < w.heap.size) := ⟨hoJ.lt TJ rfl, ho.lt T rfl⟩
 have cs := ho.cell hm
 have c0 := h.c0
 have c1 := h.c1
 have c3 := h.c3
 rw [hia] at c1
 obtain ⟨d0, d1, d2, d3, d4, d5, d6, d7, d8⟩ := hin
 rw [hlong] at hmore HBu
 clear h ho hoJ hTab hv hmay hlab hsz hlen hg hs3 hlong hrng hmj st
 obtain ⟨U, hU⟩ : ∃ U, U = Lk.bump (P.sh 1) L J m := ⟨_, rfl⟩
 obtain ⟨Z, hZ⟩ : ∃ Z, Z = (P.sh 1).size (Lk.with1 L m) := ⟨_, rfl⟩
 obtain ⟨Y, hY⟩ : ∃ Y, Y = (P.sh 1).size L := ⟨_, rfl⟩
 obtain ⟨O, hO⟩ : ∃ O : Nat → Int, O = fun j => if Lk.jmpB (P.I j).op then (P.sh 1).over j m else 0 := ⟨_, rfl⟩
 rw [← hU] at HBu HNr
 rw [← hU, ← hZ]
 rw [← hY] at HO cs hmore HBu HSz
 rw [← hZ] at HSz
 have HOv : Hid (∀ j, j < P.n → ∀ W l, Ch w W l → (∀ k, k ∈ l → N ≤ k) → B ∉ l → Calls Tryz.prog 67 #[.pointer (some ⟨B, 0, none⟩), .int .i64 j, .int .i64 m] W fun e w' => e = .returned (.int .i64 (O j)) ∧ W.grownBy w' none) := by rw [hO]; exact HOv
 have HOr : Hid (∀ j, O j = 1 ∨ O j = -1 ∨ O j = 0) := by rw [hO]; exact HOr
 have HBu : Hid (∀ j, U j = if Lk.fitB (J j) then J j + (8 - Y m) * O j else J j) := by rw [hO]; exact HBu
 clear hU hZ hY hO hia
 obtain ⟨n, hnn⟩ : ∃ n, n = P.n := ⟨_, rfl⟩
 rw [← hnn] at HOv HNr HSz HPt HO HJ c1 c3 hn hm ⊢
 clear hnn
 have hm' : (m : Int) < n := by omega
 have hn' : (n : Int) ≤ 1100000 := by omega
 obtain ⟨lo, hlo⟩ : ∃ lo, lo = m - 128 := ⟨_, rfl⟩
 rw [← hlo]
 obtain ⟨hi, hhi⟩ : ∃ hi, hi = min n (m + 129) := ⟨_, rfl⟩
 rw [← hhi]
 have HLo : Hid (lo = m - 128) := hlo
 have HHi : Hid (hi ≤ n ∧ hi ≤ m + 129 ∧ (∀ k, k < n → k < m + 129 → k < hi) ∧ lo ≤ hi) := by
  show _ ∧ _ ∧ _ ∧ _
  rw [hhi, hlo]
  refine ⟨Nat.min_le_left _ _, Nat.min_le_right _ _, fun k h1 h2 => Nat.lt_min.2 ⟨h1, h2⟩, ?_⟩
  exact Nat.le_min.2 ⟨by omega, by omega⟩
 clear hlo hhi
 go_enter Tryz.func43, Tryz.ntmps43
 go_wp2_with fail
 have HWd : Hid (∀ W, w.grownBy W none → TabAt W) := fun W g => HTb.out.kept g (by simp)
 have hmn : ¬ n ≤ m := by omega
 go_cut [7, 8] (fun b e wx => ∃ T' c', b = .slice (some ⟨T', 0, none⟩) 8 c' ∧ e = .int .i64 0 ∧ w.grownBy wx none)
 case first =>
  refine region_late 16 15 _ _ _ (psiE [.pointer (some ⟨B, 0, none⟩), .pointer (some ⟨B, 0, none⟩), .pointer (some ⟨B, 0, none⟩), .func (.func 60) #[] #[], .pointer (some ⟨B, 0, none⟩), .pointer (some ⟨B, 0, none⟩), .pointer (some ⟨B, 1, none⟩), .slice (some ⟨bi, offi, none⟩) n ic, .int .i64 (m : Int), .pointer (some ⟨bi, offi + m * 9, none⟩), .agg #[.int .i64 v.op, .int .i64 v.a, .int .i64 v.b, .int .i64 v.c, .int .i64 v.k, .int .i64 v.sub, .int .i64 v.scale, .int .i64 v.imm, .int .i64 v.label], .agg #[.int .i64 v.op, .int .i64 v.a, .int .i64 v.b, .int .i64 v.c, .int .i64 v.k, .int .i64 v.sub, .int .i64 v.scale, .int .i64 128, .int .i64 0]] w.heap.size SS) (by kernel_rfl) (by kernel_rfl) rfl rfl rfl (by kernel_rfl) (by kernel_rfl) (fun i x w0 w1 hi h g => psiE_stable h g) ?_ ?_ ?_
  ·simp only [List.take_succ_cons, List.take_zero]
   refine ⟨?_, ?_, ?_, ?_, ?_, ?_, ?_, ?_, ?_, ?_, ?_, ?_, ?_, ?_, ?_, ?_, trivial⟩
   ·intro V W0 A g hV hs hz
    have gD : w.grownBy W0 none := gtr (grown_drew (World.grownBy.refl _ none)) g
    have e00 := hz 0 (.pointer (some ⟨B, 0, none⟩)) (by kernel_rfl) rfl
    clear hV hs hz
    refine outO_val (v := .pointer (some ⟨B, 0, none⟩)) (w' := W0) ?_ gr0 (psiE_mk (by simp) rfl)
    simp [go_sem, e00]
   ·intro V W0 A g hV hs hz
    have gD : w.grownBy W0 none := gtr (grown_drew (World.grownBy.refl _ none)) g
    have q0 : V 0 = .pointer (some ⟨B, 0, none⟩) := psiE_f (hV 0 (by kernel_rfl)) (by simp)
    have e0 := hs 13 0 (by kernel_rfl) (by kernel_rfl)
    clear hV hs hz
    refine outO_val (v := .pointer (some ⟨B, 0, none⟩)) (w' := W0) ?_ gr0 (psiE_mk (by simp) rfl)
    simp [go_sem, q0, e0]
   ·intro V W0 A g hV hs hz
    have gD : w.grownBy W0 none := gtr (grown_drew (World.grownBy.refl _ none)) g
    have q1 : V 1 = .pointer (some ⟨B, 0, none⟩) := psiE_f (hV 1 (by kernel_rfl)) (by simp)
    have e1 := hs 14 1 (by kernel_rfl) (by kernel_rfl)
    clear hV hs hz
    refine outO_val (v := .pointer (some ⟨B, 0, none⟩)) (w' := W0) ?_ gr0 (psiE_mk (by simp) rfl)
    simp [go_sem, q1, e1]
   ·intro V W0 A g hV hs hz
    have gD : w.grownBy W0 none := gtr (grown_drew (World.grownBy.refl _ none)) g
    have q2 : V 2 = .pointer (some ⟨B, 0, none⟩) := psiE_f (hV 2 (by kernel_rfl)) (by simp)
    have e2 := hs 15 2 (by kernel_rfl) (by kernel_rfl)
    have x0 := gD.cell c0 (by simp)
    clear hV hs hz
    refine outO_val (v := .func (.func 60) #[] #[]) (w' := W0) ?_ gr0 (psiE_mk (by simp) rfl)
    simp [go_sem, q2, e2, x0]
   ·intro V W0 A g hV hs hz
    have gD : w.grownBy W0 none := gtr (grown_drew (World.grownBy.refl _ none)) g
    have e00 := hz 0 (.pointer (some ⟨B, 0, none⟩)) (by kernel_rfl) rfl
    clear hV hs hz
    refine outO_val (v := .pointer (some ⟨B, 0, none⟩)) (w' := W0) ?_ gr0 (psiE_mk (by simp) rfl)
    simp [go_sem, e00]
   ·intro V W0 A g hV hs hz
    have gD : w.grownBy W0 none := gtr (grown_drew (World.grownBy.refl _ none)) g
    have q4 : V 4 = .pointer (some ⟨B, 0, none⟩) := psiE_f (hV 4 (by kernel_rfl)) (by simp)
    have e4 := hs 17 4 (by kernel_rfl) (by kernel_rfl)
    clear hV hs hz
    refine outO_val (v := .pointer (some ⟨B, 0, none⟩)) (w' := W0) ?_ gr0 (psiE_mk (by simp) rfl)
    simp [go_sem, q4, e4]
   ·intro V W0 A g hV hs hz
    have gD : w.grownBy W0 none := gtr (grown_drew (World.grownBy.refl _ none)) g
    have q5 : V 5 = .pointer (some ⟨B, 0, none⟩) := psiE_f (hV 5 (by kernel_rfl)) (by simp)
    have e5 := hs 18 5 (by kernel_rfl) (by kernel_rfl)
    clear hV hs hz
    refine outO_val (v := .pointer (some ⟨B, 1, none⟩)) (w' := W0) ?_ gr0 (psiE_mk (by simp) rfl)
    simp [go_sem, q5, e5]
   ·intro V W0 A g hV hs hz
    have gD : w.grownBy W0 none := gtr (grown_drew (World.grownBy.refl _ none)) g
    have q6 : V 6 = .pointer (some ⟨B, 1, none⟩) := psiE_f (hV 6 (by kernel_rfl)) (by simp)
    have e6 := hs 19 6 (by kernel_rfl) (by kernel_rfl)
    have x0 := gD.cell c1 (by simp)
    clear hV hs hz
    refine outO_val (v := .slice (some ⟨bi, offi, none⟩) n ic) (w' := W0) ?_ gr0 (psiE_mk (by simp) rfl)
    simp [go_sem, q6, e6, x0]
   ·intro V W0 A g hV hs hz
    have gD : w.grownBy W0 none := gtr (grown_drew (World.grownBy.refl _ none)) g
    have e01 := hz 1 (.int .i64 (m : Int)) (by kernel_rfl) rfl
    clear hV hs hz
    refine outO_val (v := .int .i64 (m : Int)) (w' := W0) ?_ gr0 (psiE_mk (by simp) rfl)
    simp [go_sem, e01]
   ·intro V W0 A g hV hs hz
    have gD : w.grownBy W0 none := gtr (grown_drew (World.grownBy.refl _ none)) g
    have q7 : V 7 = .slice (some ⟨bi, offi, none⟩) n ic := psiE_f (hV 7 (by kernel_rfl)) (by simp)
    have e7 := hs 20 7 (by kernel_rfl) (by kernel_rfl)
    have q8 : V 8 = .int .i64 (m : Int) := psiE_f (hV 8 (by kernel_rfl)) (by simp)
    have e8 := hs 21 8 (by kernel_rfl) (by kernel_rfl)
    clear hV hs hz
    refine outO_val (v := .pointer (some ⟨bi, offi + m * 9, none⟩)) (w' := W0) ?_ gr0 (psiE_mk (by simp) rfl)
    simp [go_sem, q7, e7, q8, e8, hmn]
   ·intro V W0 A g hV hs hz
    have gD : w.grownBy W0 none := gtr (grown_drew (World.grownBy.refl _ none)) g
    have q9 : V 9 = .pointer (some ⟨bi, offi + m * 9, none⟩) := psiE_f (hV 9 (by kernel_rfl)) (by simp)
    have e9 := hs 22 9 (by kernel_rfl) (by kernel_rfl)
    have x0 := gD.cell d0 (by simp)
    have x1 := gD.cell d1 (by simp)
    have x2 := gD.cell d2 (by simp)
    have x3 := gD.cell d3 (by simp)
    have x4 := gD.cell d4 (by simp)
    have x5 := gD.cell d5 (by simp)
    have x6 := gD.cell d6 (by simp)
    have x7 := gD.cell d7 (by simp)
    have x8 := gD.cell d8 (by simp)
    clear hV hs hz
    refine outO_val (v := .agg #[.int .i64 v.op, .int .i64 v.a, .int .i64 v.b, .int .i64 v.c, .int .i64 v.k, .int .i64 v.sub, .int .i64 v.scale, .int .i64 v.imm, .int .i64 v.label]) (w' := W0) ?_ gr0 (psiE_mk (by simp) rfl)
    simp [go_sem, q9, e9, x0, x1, x2, x3, x4, x5, x6, x7, x8]
   ·intro V W0 A g hV hs hz
    have gD : w.grownBy W0 none := gtr (grown_drew (World.grownBy.refl _ none)) g
    have q10 : V 10 = .agg #[.int .i64 v.op, .int .i64 v.a, .int .i64 v.b, .int .i64 v.c, .int .i64 v.k, .int .i64 v.sub, .int .i64 v.scale, .int .i64 v.imm, .int .i64 v.label] := psiE_f (hV 10 (by kernel_rfl)) (by simp)
    have e10 := hs 23 10 (by kernel_rfl) (by kernel_rfl)
    clear hV hs hz
    refine outO_call (f := 47) ?_ ((HLd.out W0).mono fun e w2 ⟨he, hg⟩ => ⟨_, he, hg, psiE_mk (by simp) rfl⟩)
    simp [go_sem, q10, e10]
   ·intro V W0 A g hV hs hz
    have gD : w.grownBy W0 none := gtr (grown_drew (World.grownBy.refl _ none)) g
    have q3 : V 3 = .func (.func 60) #[] #[] := psiE_f (hV 3 (by kernel_rfl)) (by simp)
    have e3 := hs 16 3 (by kernel_rfl) (by kernel_rfl)
    have q11 : V 11 = .agg #[.int .i64 v.op, .int .i64 v.a, .int .i64 v.b, .int .i64 v.c, .int .i64 v.k, .int .i64 v.sub, .int .i64 v.scale, .int .i64 128, .int .i64 0] := psiE_f (hV 11 (by kernel_rfl)) (by simp)
    have e11 := hs 24 11 (by kernel_rfl) (by kernel_rfl)
    clear hV hs hz
    refine outO_call (f := 60) ?_ (psi_call (by have := g.size; exact this) (by simp) (by simp) (HEn.out W0 (HWd.out W0 gD)))
    simp [go_sem, q3, e3, q11, e11]
   ·intro V W0 A g hV hs hz
    obtain ⟨T1, k1, h1, o1⟩ := psiE_t (hV 12 (by kernel_rfl)) (by simp) (by simp)
    have e1 := hs 25 12 (by kernel_rfl) (by kernel_rfl)
    clear hV hs hz
    refine outO_val (v := V 12) (w' := W0) ?_ gr0 (psiE_mt (by simp) (by simp) ⟨T1, k1, h1, o1⟩)
    simp [go_sem, e1]
   ·intro V W0 A g hV hs hz
    obtain ⟨T1, k1, h1, o1⟩ := psiE_t (hV 13 (by kernel_rfl)) (by simp) (by simp)
    have e1 := hs 12 13 (by kernel_rfl) (by kernel_rfl)
    clear hV hs hz
    refine outO_val (v := .slice (some ⟨T1, 0, none⟩) SS.length k1) (w' := W0) ?_ gr0 (psiE_ms (by simp) ⟨T1, k1, rfl, o1⟩)
    simp [go_sem, e1, h1]
   ·intro V W0 A g hV hs hz
    obtain ⟨T1, k1, h1, o1⟩ := psiE_t (hV 13 (by kernel_rfl)) (by simp) (by simp)
    have e1 := hs 12 13 (by kernel_rfl) (by kernel_rfl)
    clear hV hs hz
    refine outO_val (v := .int .i64 0) (w' := W0) ?_ gr0 (psiE_me (by simp) rfl)
    simp [go_sem, e1, h1]
  ·intro V W0 g hV
   have gD : w.grownBy W0 none := gtr (grown_drew (World.grownBy.refl _ none)) g
   have h0 : V 0 = .pointer (some ⟨B, 0, none⟩) := psiE_f (hV 0 (by decide)) (by simp)
   have h1 : V 1 = .pointer (some ⟨B, 0, none⟩) := psiE_f (hV 1 (by decide)) (by simp)
   have h2 : V 2 = .pointer (some ⟨B, 0, none⟩) := psiE_f (hV 2 (by decide)) (by simp)
   have h3 : V 3 = .func (.func 60) #[] #[] := psiE_f (hV 3 (by decide)) (by simp)
   have h4 : V 4 = .pointer (some ⟨B, 0, none⟩) := psiE_f (hV 4 (by decide)) (by simp)
   have h5 : V 5 = .pointer (some ⟨B, 0, none⟩) := psiE_f (hV 5 (by decide)) (by simp)
   have h6 : V 6 = .pointer (some ⟨B, 1, none⟩) := psiE_f (hV 6 (by decide)) (by simp)
   have h7 : V 7 = .slice (some ⟨bi, offi, none⟩) n ic := psiE_f (hV 7 (by decide)) (by simp)
   have h8 : V 8 = .int .i64 (m : Int) := psiE_f (hV 8 (by decide)) (by simp)
   have h9 : V 9 = .pointer (some ⟨bi, offi + m * 9, none⟩) := psiE_f (hV 9 (by decide)) (by simp)
   have h10 : V 10 = .agg #[.int .i64 v.op, .int .i64 v.a, .int .i64 v.b, .int .i64 v.c, .int .i64 v.k, .int .i64 v.sub, .int .i64 v.scale, .int .i64 v.imm, .int .i64 v.label] := psiE_f (hV 10 (by decide)) (by simp)
   have h11 : V 11 = .agg #[.int .i64 v.op, .int .i64 v.a, .int .i64 v.b, .int .i64 v.c, .int .i64 v.k, .int .i64 v.sub, .int .i64 v.scale, .int .i64 128, .int .i64 0] := psiE_f (hV 11 (by decide)) (by simp)
   obtain ⟨T1, k1, h12, _⟩ := psiE_t (hV 12 (by decide)) (by simp) (by simp)
   obtain ⟨T2, k2, h13, _⟩ := psiE_t (hV 13 (by decide)) (by simp) (by simp)
   obtain ⟨T3, k3, h14, _⟩ := psiE_s (hV 14 (by decide)) (by simp)
   have h15 := psiE_e (hV 15 (by decide)) (by simp)
   rw [hSl] at h12 h13 h14
   simp [frV, dstOf, Act.put, h0, h1, h2, h3, h4, h5, h6, h7, h8, h9, h10, h11, h12, h13, h14, h15]
   clear h0 h1 h2 h3 h4 h5 h6 h7 h8 h9 h10 h11 h12 h13 h14 h15 hV g
   have GR : Hid (w.grownBy W0 none) := gD
   clear gD
   go_wp2_with fail
   go_meet
   exact ⟨T3, k3, rfl, rfl, GR.out⟩
  ·intro V W0 g hV hold
   have gD : w.grownBy W0 none := gtr (grown_drew (World.grownBy.refl _ none)) g
   have h0 : V 0 = .pointer (some ⟨B, 0, none⟩) := psiE_f (hV 0 (by decide) (by decide)) (by simp)
   have h1 : V 1 = .pointer (some ⟨B, 0, none⟩) := psiE_f (hV 1 (by decide) (by decide)) (by simp)
   have h2 : V 2 = .pointer (some ⟨B, 0, none⟩) := psiE_f (hV 2 (by decide) (by decide)) (by simp)
   have h3 : V 3 = .func (.func 60) #[] #[] := psiE_f (hV 3 (by decide) (by decide)) (by simp)
   have h4 : V 4 = .pointer (some ⟨B, 0, none⟩) := psiE_f (hV 4 (by decide) (by decide)) (by simp)
   have h5 : V 5 = .pointer (some ⟨B, 0, none⟩) := psiE_f (hV 5 (by decide) (by decide)) (by simp)
   have h6 : V 6 = .pointer (some ⟨B, 1, none⟩) := psiE_f (hV 6 (by decide) (by decide)) (by simp)
   have h7 : V 7 = .slice (some ⟨bi, offi, none⟩) n ic := psiE_f (hV 7 (by decide) (by decide)) (by simp)
   have h8 : V 8 = .int .i64 (m : Int) := psiE_f (hV 8 (by decide) (by decide)) (by simp)
   have h9 : V 9 = .pointer (some ⟨bi, offi + m * 9, none⟩) := psiE_f (hV 9 (by decide) (by decide)) (by simp)
   have h10 : V 10 = .agg #[.int .i64 v.op, .int .i64 v.a, .int .i64 v.b, .int .i64 v.c, .int .i64 v.k, .int .i64 v.sub, .int .i64 v.scale, .int .i64 v.imm, .int .i64 v.label] := psiE_f (hV 10 (by decide) (by decide)) (by simp)
   have h11 : V 11 = .agg #[.int .i64 v.op, .int .i64 v.a, .int .i64 v.b, .int .i64 v.c, .int .i64 v.k, .int .i64 v.sub, .int .i64 v.scale, .int .i64 128, .int .i64 0] := psiE_f (hV 11 (by decide) (by decide)) (by simp)
   obtain ⟨T1, k1, h12, _⟩ := psiE_t (hV 12 (by decide) (by decide)) (by simp) (by simp)
   obtain ⟨T2, k2, h13, _⟩ := psiE_t (hV 13 (by decide) (by decide)) (by simp) (by simp)
   obtain ⟨T3, k3, h14, _⟩ := psiE_s (hV 14 (by decide) (by decide)) (by simp)
   obtain ⟨y, h15⟩ : ∃ y, V 15 = y := ⟨_, rfl⟩
   rw [hSl] at h12 h13 h14
   simp [frV, dstOf, Act.put, h0, h1, h2, h3, h4, h5, h6, h7, h8, h9, h10, h11, h12, h13, h14, h15]
   clear h0 h1 h2 h3 h4 h5 h6 h7 h8 h9 h10 h11 h12 h13 h14 h15 hV g hold
   have GR : Hid (w.grownBy W0 none) := gD
   clear gD
   go_wp2_with fail
   go_meet
   exact ⟨T3, k3, rfl, rfl, GR.out⟩
 case rest =>
  obtain ⟨T', c', rfl, rfl, g1⟩ := hcut
  obtain ⟨W2, hwc⟩ : ∃ x, x = wc := ⟨_, rfl⟩
  rw [← hwc] at g1 ⊢
  clear hwc
  have cs2 := g1.cell cs (by simp)
  have c32 := g1.cell c3 (by simp)
  have f2 := (HO.out.grow g1).frozen m
  have HO3 : Hid (OwnN (W2.setCell ⟨T, m, none⟩ (.int .i64 8)) N (.slice (some ⟨T, 0, none⟩) n n) n Z) := ((HO.out.grow g1).set hm 8).congr HSz.out
  have HJ3 : Hid (OwnN (W2.setCell ⟨T, m, none⟩ (.int .i64 8)) N (.slice (some ⟨TJ, 0, none⟩) n n) n J) := (HJ.out.grow g1).kept (grown_set _ _ _ _) (.inr (by simp [Value.ownBlock]; omega))
  have HC3 : Hid (Ch w (W2.setCell ⟨T, m, none⟩ (.int .i64 8)) [T, TJ]) := (Ch.of g1).trans (Ch.one (grown_set _ _ _ _) (by simp))
  have HC1 : Hid (w.cell? ⟨B, 1, none⟩ = some (.slice (some ⟨bi, offi, none⟩) n ic)) := c1
  clear g1 HEn HLd HWd c0 c1 d0 d1 d2 d3 d4 d5 d6 d7 d8 cs c3 hSl HSz HO HJ
  have hX : ∀ k, -6 ≤ (8 - Y m) * O k ∧ (8 - Y m) * O k ≤ 6 := fun k => by
   rcases HOr.out k with e | e | e <;> rw [e] <;> omega
  have HX : Hid (∀ k, -6 ≤ (8 - Y m) * O k ∧ (8 - Y m) * O k ≤ 6) := hX
  clear hX
  have hTJw : TJ < w.heap.size := HTJ.out.1
  have hTw : T < w.heap.size := HTJ.out.2
  go_wp2_with fail
  all_goals
   go_loopw [10, 11] (fun l j wr => ∃ k : Nat, j = .int .i64 k ∧ lo ≤ k ∧ k ≤ hi ∧ OwnZ wr w.heap.size l (Lk.nl J U lo k) ∧ OwnN wr N (.slice (some ⟨T, 0, none⟩) n n) n Z ∧ OwnN wr N (.slice (some ⟨TJ, 0, none⟩) n n) n (Lk.mid J U lo k) ∧ Ch w wr [T, TJ]) (fun _ j _ => n - (intOf j).toNat)
   case atStart => exact ⟨lo, by (congr 1; have := HLo.out; omega), Nat.le_refl _, HHi.out.2.2.2, by rw [Lk.nl_low J U lo lo (Nat.le_refl _)]; exact World.ownsRow_nil _ _ _ _, HO3.out, HJ3.out.congr (fun i _ => by unfold Lk.mid; rw [if_neg (by omega)]), HC3.out⟩
   case round =>
    obtain ⟨al, hal⟩ : ∃ al, al = u10 := ⟨_, rfl⟩
    obtain ⟨k, rfl, hk1, hk2, hoZ, hoT, hoJ, hch⟩ := hrel
    rw [← hal] at hoZ ⊢
    clear hal
    have HOZ : Hid (OwnZ wr w.heap.size al (Lk.nl J U lo k)) := hoZ
    have HOT : Hid (OwnN wr N (.slice (some ⟨T, 0, none⟩) n n) n Z) := hoT
    have HOJ : Hid (OwnN wr N (.slice (some ⟨TJ, 0, none⟩) n n) n (Lk.mid J U lo k)) := hoJ
    have HCH : Hid (Ch w wr [T, TJ]) := hch
    have c1r := hch.cell HC1.out (b := B) (by simp; exact ⟨hBT, hBJ⟩)
    have hwr := hch.size
    have hll := Lk.nl_len J U lo k
    obtain ⟨hi1, hi2, hi3, hi4⟩ := HHi.out
    clear hoT hoJ hch
    by_cases hkn : k < n ∧ k < m + 129
    ·have hk1' : (k : Int) < n := by omega
     have hk2' : (k : Int) < (m : Int) + 129 := by omega
     have hk2'' : (k : Int) < (m : Int) + 128 + 1 := by omega
     have hkhi := hi3 k hkn.1 hkn.2
     have ck := HOJ.out.cell hkn.1
     have fk := HOJ.out.frozen k
     have emid : Lk.mid J U lo k k = J k := by unfold Lk.mid; rw [if_neg (by omega)]
     rw [emid] at ck
     obtain ⟨ao, cp, rfl, _⟩ := hoZ.slice
     clear hoZ emid
     have HUk := HBu.out k
     have HNl : Hid (Lk.nl J U lo (k + 1) = Lk.nl J U lo k ++ if decide (lo ≤ k) && (Lk.fitB (J k) && !Lk.fitB (U k)) then [(k : Int)] else []) := rfl
     have HMd : Hid (∀ i, Lk.mid J U lo (k + 1) i = if i = k then U k else Lk.mid J U lo k i) := fun i => by
      unfold Lk.mid
      by_cases e : i = k
      ·subst e; rw [if_pos (by omega), if_pos rfl]
      ·by_cases h1 : lo ≤ i ∧ i < k
       ·rw [if_pos (by omega), if_neg e, if_pos h1]
       ·rw [if_neg (by omega), if_neg e, if_neg h1]
     have hX := HX.out k
     obtain ⟨z, hz⟩ : ∃ z, z = J k := ⟨_, rfl⟩
     obtain ⟨Lz, hLz⟩ : ∃ Lz, Lz = Lk.nl J U lo k := ⟨_, rfl⟩
     rw [← hz] at ck HUk HNl
     rw [← hLz] at HOZ HNl hll ⊢
     clear hLz
     cases hf : Lk.fitB z
     ·rw [hf] at HUk HNl
      have HF : Hid (∀ W, Calls Tryz.prog 66 #[.int .i64 z] W fun e w' => e = .returned (.bool false) ∧ w' = W) := fun W => by rw [← hf]; exact fitb_any z W
      have HM0 : Hid (∀ i, Lk.mid J U lo k i = Lk.mid J U lo (k + 1) i) := fun i => by
       rw [HMd.out]
       by_cases e : i = k
       ·subst e
        rw [if_pos rfl, HUk]
        unfold Lk.mid
        rw [if_neg (by omega), ← hz]
        simp
       ·rw [if_neg e]
      clear HUk hz
      go_wp2_with (go_at_call 66; refine (HF.out _).mono ?_; rintro e w5 ⟨rfl, hw5⟩; rw [hw5]; clear hw5 w5)
      all_goals exact ⟨⟨k + 1, by go_num, by omega, by omega, HOZ.out.cast (by rw [HNl.out]; simp), HOT.out, HOJ.out.congr (fun i _ => HM0.out i), HCH.out⟩, by simp [intOf]; omega⟩
     ·rw [hf] at HUk HNl
      have hzr := Lk.fitB_iff.1 hf
      have HF : Hid (∀ W, Calls Tryz.prog 66 #[.int .i64 z] W fun e w' => e = .returned (.bool true) ∧ w' = W) := fun W => by rw [← hf]; exact fitb_any z W
      have HUe : Hid (U k = z + (8 - Y m) * O k) := by show _ = _; rw [HUk]; simp
      clear HUk hz
      have HOk : Hid (∀ y : Gw wr, Calls Tryz.prog 67 #[.pointer (some ⟨B, 0, none⟩), .int .i64 k, .int .i64 m] y.w fun e w' => e = .returned (.int .i64 (O k)) ∧ y.w.grownBy w' none) := fun y => HOv.out k hkn.1 y.w [T, TJ] (HCH.out.trans (Ch.of y.h)) (by simp; exact ⟨hT1, hT2⟩) (by simp; exact ⟨hBT, hBJ⟩)
      obtain ⟨ok, hok⟩ : ∃ ok, ok = O k := ⟨_, rfl⟩
      rw [← hok] at HOk HUe hX
      clear hok
      go_wp2_with (go_at_call 66; refine (HF.out _).mono ?_; rintro e w5 ⟨rfl, hw5⟩; rw [hw5]; clear hw5 w5)
      all_goals
       refine tail_class (fun w' => ∃ y : Gw wr, w' = y.w) 12 (by kernel_rfl) (by kernel_rfl) ⟨⟨wr.drew, grown_drew gr0⟩, rfl⟩ ?_
       have e1 := fun y : Gw wr => y.h.cell ck (by simp)
       simp only [List.take_succ_cons, List.take_zero, List.drop_succ_cons, List.drop_zero]
       repeat (go_big_quiet_step (first | exact rfl | (go_at_call 67; exact Gw.call (HOk.out _))))
       refine wpQuiet_nil ?_
       rintro W8 ⟨y8, hy8⟩
       have g : wr.grownBy W8 none := by rw [hy8]; exact y8.h
       clear hy8 y8 e1 ck fk c1r
       have f8 := (HOJ.out.grow g).frozen k
       have c8 := (HOJ.out.grow g).cell hkn.1
       have hs8 := g.size
       obtain ⟨X, hXe⟩ : ∃ X, X = z + (8 - Y m) * ok := ⟨_, rfl⟩
       have HO9 : Hid (OwnN (W8.setCell ⟨TJ, k, none⟩ (.int .i64 X)) N (.slice (some ⟨TJ, 0, none⟩) n n) n (Lk.mid J U lo (k + 1))) := ((HOJ.out.grow g).set hkn.1 _).congr (fun i hi => by
        unfold setF
        rw [HMd.out, HUe.out, hXe])
       have HT9 : Hid (OwnN (W8.setCell ⟨TJ, k, none⟩ (.int .i64 X)) N (.slice (some ⟨T, 0, none⟩) n n) n Z) := (HOT.out.grow g).kept (grown_set _ _ _ _) (.inr (by simp [Value.ownBlock]; omega))
       have HC9 : Hid (Ch w (W8.setCell ⟨TJ, k, none⟩ (.int .i64 X)) [T, TJ]) := (HCH.out.trans (Ch.of g)).trans (Ch.one (grown_set _ _ _ _) (by simp))
       have HZ9 : Hid (OwnZ (W8.setCell ⟨TJ, k, none⟩ (.int .i64 X)) w.heap.size (.slice ao Lz.length cp) Lz) := (HOZ.out.grow g).kept (grown_set _ _ _ _) (by
        cases hb : (Value.slice ao Lz.length cp).ownBlock with
        | none => exact .inl rfl
        | some b => exact .inr (by have := HOZ.out.base b hb; have := HJ3.out.lt TJ rfl; simp; intro e; subst e; have := hTJw; omega))
       have ck9 : (W8.setCell ⟨TJ, k, none⟩ (.int .i64 X)).cell? ⟨TJ, k, none⟩ = some (.int .i64 X) := World.cell?_setCell_same _ _ _ c8
       have hUX : U k = X := by rw [hXe]; exact HUe.out
       have hsz9 : (W8.setCell ⟨TJ, k, none⟩ (.int .i64 X)).heap.size = W8.heap.size := by simp
       have hs9 : w.heap.size ≤ (W8.setCell ⟨TJ, k, none⟩ (.int .i64 X)).heap.size := HC9.out.size
       rw [hUX] at HNl
       cases hf2 : Lk.fitB X
       ·rw [hf2] at HNl
        have HF2 : Hid (∀ W, Calls Tryz.prog 66 #[.int .i64 X] W fun e w' => e = .returned (.bool false) ∧ w' = W) := fun W => by rw [← hf2]; exact fitb_any X W
        clear hUX hf2 HF HOJ HOT HCH HOZ
        rw [← hXe]
        clear hXe hX
        go_wp2_with (first | (go_at_call 66; refine (HF2.out _).mono ?_; rintro e w5 ⟨rfl, hw5⟩; rw [hw5]; clear hw5 w5) | (at_builtin; refine wp_appZ rfl _ _ rfl w.heap.size (.slice ao Lz.length cp) Lz (k : Int) rfl HZ9.out (by rw [hsz9]; rfl) (by omega) hs9 ?_; intro v' w6 ho6 hg6))
        have hne6 : ∀ b, (Value.slice ao Lz.length cp).ownBlock = some b → w.heap.size ≤ b := HZ9.out.base
        have hk6 : ∀ T0, T0 < w.heap.size → (Value.slice (some ⟨T0, 0, none⟩) n n).ownBlock = none ∨ (Value.slice (some ⟨T0, 0, none⟩) n n).ownBlock ≠ (Value.slice ao Lz.length cp).ownBlock := fun T0 h0 => .inr (by
         show some T0 ≠ _
         intro e
         have := hne6 T0 e.symm
         omega)
        exact ⟨⟨k + 1, by go_num, by omega, by omega, ho6.cast (by rw [HNl.out]; simp [hk1]), HT9.out.kept hg6 (hk6 T hTw), HO9.out.kept hg6 (hk6 TJ hTJw), chApp HC9.out hg6 hne6⟩, by simp [intOf]; omega⟩
       ·rw [hf2] at HNl
        have HF2 : Hid (∀ W, Calls Tryz.prog 66 #[.int .i64 X] W fun e w' => e = .returned (.bool true) ∧ w' = W) := fun W => by rw [← hf2]; exact fitb_any X W
        clear hUX hf2 HF HOJ HOT HCH HOZ
        rw [← hXe]
        clear hXe hX
        go_wp2_with (first | (go_at_call 66; refine (HF2.out _).mono ?_; rintro e w5 ⟨rfl, hw5⟩; rw [hw5]; clear hw5 w5))
        exact ⟨⟨k + 1, by go_num, by omega, by omega, HZ9.out.cast (by rw [HNl.out]; simp), HT9.out, HO9.out, HC9.out⟩, by simp [intOf]; omega⟩
    ·obtain rfl : k = hi := by
      by_cases h1 : k < n
      ·by_cases h2 : k < m + 129
       ·exact absurd ⟨h1, h2⟩ hkn
       ·omega
      ·omega
     have hend : (k : Int) = n ∨ (k : Int) = (m : Int) + 129 := by
      by_cases h1 : k < n
      ·by_cases h2 : k < m + 129
       ·exact absurd ⟨h1, h2⟩ hkn
       ·omega
      ·omega
     have HE1 : Hid (∀ i, i < n → Lk.mid J U lo k i = U i) := fun i hi' => by
      unfold Lk.mid
      by_cases h1 : lo ≤ i ∧ i < k
      ·rw [if_pos h1]
      ·rw [if_neg h1]
       have hl := HLo.out
       exact (HNr.out i hi' (by omega)).symm
     rcases hend with he | he
     all_goals
      go_wp2
      all_goals
       go_ret
       exact ⟨_, rfl, HOZ.out, HOT.out, HOJ.out.congr HE1.out, HCH.out⟩
theorem plong_c {N : Nat} {w : World} {B : Nat} {P : Lk.PcV} {ia ma : Option Addr} {ic mc T TJ : Nat} {p : Int} {L : Nat → Bool} {J : Nat → Int} {Q : Nat → Prop} (h : Pt N w B 61 P ia ma ic mc (.slice (some ⟨T, 0, none⟩) P.n P.n)) (hTab : TabAt w) (hNw : N ≤ w.heap.size) (hTN : 2 < N)
  (ho : OwnN w N (.slice (some ⟨T, 0, none⟩) P.n P.n) P.n ((P.sh 2).size L)) (hoJ : OwnN w N (.slice (some ⟨TJ, 0, none⟩) P.n P.n) P.n J) (hne : T ≠ TJ) (hBT : B ≠ T) (hBJ : B ≠ TJ) (hP : P.Ok 2 p) (hn : P.n ≤ 1100000) (st : Lk.St (P.sh 2) L J Q) {m : Nat} (hm : m < P.n) (hmj : Lk.jmpB (P.I m).op = true) (hmf : Lk.fitB (J m) = false) :
  Calls Tryz.prog 43 #[.pointer (some ⟨B, 0, none⟩), .int .i64 m, .slice (some ⟨TJ, 0, none⟩) P.n P.n] w fun e w' => ∃ v, e = .returned v ∧ OwnZ w' w.heap.size v (Lk.nl J (Lk.bump (P.sh 2) L J m) (m - 128) (min P.n (m + 129))) ∧
   OwnN w' N (.slice (some ⟨T, 0, none⟩) P.n P.n) P.n ((P.sh 2).size (Lk.with1 L m)) ∧ OwnN w' N (.slice (some ⟨TJ, 0, none⟩) P.n P.n) P.n (Lk.bump (P.sh 2) L J m) ∧ Ch w w' [T, TJ] := by
 have hT1 : N ≤ T := ho.base T rfl
 have hT2 : N ≤ TJ := hoJ.base TJ rfl
 obtain ⟨v, hv⟩ : ∃ v, v = P.I m := ⟨_, rfl⟩
 have hmay := hP.may hm
 have hlab := Lk.lab_jmp hmay.1 hmj
 rw [← hv] at hmj hmay hlab
 have hsz : (P.sh 2).size L m = (P.sh 2).g ∨ (P.sh 2).size L m = (P.sh 2).s m := by unfold Lk.Sh.size; split <;> simp
 have hlen : ((Ru.encT 2 (Lk.lead v 128)).length : Int) = Lk.long 2 := by
  rw [Lk.len_jmp hmj hmay.2 (by decide) (by decide), if_neg (by decide)]
 have hg : (P.sh 2).g = Lk.long 2 := rfl
 have hs3 : (P.sh 2).s m = if 2 = 1 then 8 else 3 := by
  show ((Ru.encT 2 (Lk.bare (P.I m))).length : Int) = _
  rw [← hv]
  exact Lk.len_short hmj hmay.2 hlab.1
 have hlong : Lk.long 2 = 6 := by decide
 have hmore : 0 ≤ Lk.long 2 - (P.sh 2).size L m ∧ Lk.long 2 - (P.sh 2).size L m ≤ 6 := by
  rcases hsz with e | e
  ·rw [e, hg]; omega
  ·rw [e, hs3, hlong]; decide
 have HLd : Hid (∀ W, Calls Tryz.prog 47 #[.agg #[.int .i64 v.op, .int .i64 v.a, .int .i64 v.b, .int .i64 v.c, .int .i64 v.k, .int .i64 v.sub, .int .i64 v.scale, .int .i64 v.imm, .int .i64 v.label], .int .i64 128] W fun e w' => e = .returned (.agg #[.int .i64 v.op, .int .i64 v.a, .int .i64 v.b, .int .i64 v.c, .int .i64 v.k, .int .i64 v.sub, .int .i64 v.scale, .int .i64 128, .int .i64 0]) ∧ W.grownBy w' none) := fun W => leading_any v 128 W
 obtain ⟨bi, offi, hia, hbi, hin, hrng⟩ := h.ins.at hm
 rw [← hv] at hin hrng
 obtain ⟨SS, hSS⟩ : ∃ SS, SS = Ru.encT 2 (Lk.lead v 128) := ⟨_, rfl⟩
 have hSl : SS.length = 6 := by rw [hSS]; rw [hlong] at hlen; omega
 have HEn : Hid (∀ W, TabAt W → Calls Tryz.prog 61 #[.agg #[.int .i64 v.op, .int .i64 v.a, .int .i64 v.b, .int .i64 v.c, .int .i64 v.k, .int .i64 v.sub, .int .i64 v.scale, .int .i64 128, .int .i64 0]] W fun e w' => ∃ T' c', e = .returned (.tuple #[.slice (some ⟨T', 0, none⟩) SS.length c', .int .i64 0]) ∧ OwnL w' W.heap.size (.slice (some ⟨T', 0, none⟩) SS.length c') SS ∧ W.grownBy w' none) := fun W hW => by
  rw [hSS]
  exact enc_c (Lk.lead v 128) W hW ⟨by show (-9223372036854775808 : Int) ≤ 128; decide, by show (128 : Int) ≤ 9223372036854775807; decide, hrng.s1, hrng.s2⟩ (Lk.may_lead (.inl hmj) hmay.2 (by decide) (by decide))
 clear hSS
 have HOv : Hid (∀ j, j < P.n → ∀ W l, Ch w W l → (∀ k, k ∈ l → N ≤ k) → B ∉ l → Calls Tryz.prog 67 #[.pointer (some ⟨B, 0, none⟩), .int .i64 j, .int .i64 m] W fun e w' => e = .returned (.int .i64 (if Lk.jmpB (P.I j).op then (P.sh 2).over j m else 0)) ∧ W.grownBy w' none) := fun j hj W l hW hl hB => pover_any (h.ch hW hl hB) hP hj hm
 have HOr : Hid (∀ j, (if Lk.jmpB (P.I j).op then (P.sh 2).over j m else 0) = 1 ∨ (if Lk.jmpB (P.I j).op then (P.sh 2).over j m else 0) = -1 ∨ (if Lk.jmpB (P.I j).op then (P.sh 2).over j m else 0) = 0) := fun j => by
  unfold Lk.Sh.over
  repeat' split
  all_goals simp
 have HBu : Hid (∀ j, Lk.bump (P.sh 2) L J m j = if Lk.fitB (J j) then J j + (Lk.long 2 - (P.sh 2).size L m) * (if Lk.jmpB (P.I j).op then (P.sh 2).over j m else 0) else J j) := fun j => rfl
 have HNr : Hid (∀ j, j < P.n → (j + 128 < m ∨ m + 128 < j) → Lk.bump (P.sh 2) L J m j = J j) := fun j hj hw => Lk.bump_near hP.sh st hj hw
 have HSz : Hid (∀ i, i < P.n → setF ((P.sh 2).size L) m 6 i = (P.sh 2).size (Lk.with1 L m) i) := fun i hi => by
  unfold setF Lk.Sh.size Lk.with1
  by_cases e : i = m
  ·subst e
   have : (P.sh 2).j i = true := by show Lk.jmpB (P.I i).op = true; rw [← hv]; exact hmj
   simp [this, hg, hlong]
  ·simp [e]
 have HPt : Hid (Pt N w B 61 P ia ma ic mc (.slice (some ⟨T, 0, none⟩) P.n P.n)) := h
 have HTb : Hid (TabAt w) := hTab
 have HO : Hid (OwnN w N (.slice (some ⟨T, 0, none⟩) P.n P.n) P.n ((P.sh 2).size L)) := ho
 have HJ : Hid (OwnN w N (.slice (some ⟨TJ, 0, none⟩) P.n P.n) P.n J) := hoJ
 have HTJ : Hid (TJ < w.heap.size ∧ T < w.heap.size) := ⟨hoJ.lt TJ rfl, ho.lt T rfl⟩
 have cs := ho.cell hm
 have c0 := h.c0
 have c1 := h.c1
 have c3 := h.c3
 rw [hia] at c1
 obtain ⟨d0, d1, d2, d3, d4, d5, d6, d7, d8⟩ := hin
 rw [hlong] at hmore HBu
 clear h ho hoJ hTab hv hmay hlab hsz hlen hg hs3 hlong hrng hmj st
 obtain ⟨U, hU⟩ : ∃ U, U = Lk.bump (P.sh 2) L J m := ⟨_, rfl⟩
 obtain ⟨Z, hZ⟩ : ∃ Z, Z = (P.sh 2).size (Lk.with1 L m) := ⟨_, rfl⟩
 obtain ⟨Y, hY⟩ : ∃ Y, Y = (P.sh 2).size L := ⟨_, rfl⟩
 obtain ⟨O, hO⟩ : ∃ O : Nat → Int, O = fun j => if Lk.jmpB (P.I j).op then (P.sh 2).over j m else 0 := ⟨_, rfl⟩
 rw [← hU] at HBu HNr
 rw [← hU, ← hZ]
 rw [← hY] at HO cs hmore HBu HSz
 rw [← hZ] at HSz
 have HOv : Hid (∀ j, j < P.n → ∀ W l, Ch w W l → (∀ k, k ∈ l → N ≤ k) → B ∉ l → Calls Tryz.prog 67 #[.pointer (some ⟨B, 0, none⟩), .int .i64 j, .int .i64 m] W fun e w' => e = .returned (.int .i64 (O j)) ∧ W.grownBy w' none) := by rw [hO]; exact HOv
 have HOr : Hid (∀ j, O j = 1 ∨ O j = -1 ∨ O j = 0) := by rw [hO]; exact HOr
 have HBu : Hid (∀ j, U j = if Lk.fitB (J j) then J j + (6 - Y m) * O j else J j) := by rw [hO]; exact HBu
 clear hU hZ hY hO hia
 obtain ⟨n, hnn⟩ : ∃ n, n = P.n := ⟨_, rfl⟩
 rw [← hnn] at HOv HNr HSz HPt HO HJ c1 c3 hn hm ⊢
 clear hnn
 have hm' : (m : Int) < n := by omega
 have hn' : (n : Int) ≤ 1100000 := by omega
 obtain ⟨lo, hlo⟩ : ∃ lo, lo = m - 128 := ⟨_, rfl⟩
 rw [← hlo]
 obtain ⟨hi, hhi⟩ : ∃ hi, hi = min n (m + 129) := ⟨_, rfl⟩
 rw [← hhi]
 have HLo : Hid (lo = m - 128) := hlo
 have HHi : Hid (hi ≤ n ∧ hi ≤ m + 129 ∧ (∀ k, k < n → k < m + 129 → k < hi) ∧ lo ≤ hi) := by
  show _ ∧ _ ∧ _ ∧ _
  rw [hhi, hlo]
  refine ⟨Nat.min_le_left _ _, Nat.min_le_right _ _, fun k h1 h2 => Nat.lt_min.2 ⟨h1, h2⟩, ?_⟩
  exact Nat.le_min.2 ⟨by omega, by omega⟩
 clear hlo hhi
 go_enter Tryz.func43, Tryz.ntmps43
 go_wp2_with fail
 have HWd : Hid (∀ W, w.grownBy W none → TabAt W) := fun W g => HTb.out.kept g (by simp)
 have hmn : ¬ n ≤ m := by omega
 go_cut [7, 8] (fun b e wx => ∃ T' c', b = .slice (some ⟨T', 0, none⟩) 6 c' ∧ e = .int .i64 0 ∧ w.grownBy wx none)
 case first =>
  refine region_late 16 15 _ _ _ (psiE [.pointer (some ⟨B, 0, none⟩), .pointer (some ⟨B, 0, none⟩), .pointer (some ⟨B, 0, none⟩), .func (.func 61) #[] #[], .pointer (some ⟨B, 0, none⟩), .pointer (some ⟨B, 0, none⟩), .pointer (some ⟨B, 1, none⟩), .slice (some ⟨bi, offi, none⟩) n ic, .int .i64 (m : Int), .pointer (some ⟨bi, offi + m * 9, none⟩), .agg #[.int .i64 v.op, .int .i64 v.a, .int .i64 v.b, .int .i64 v.c, .int .i64 v.k, .int .i64 v.sub, .int .i64 v.scale, .int .i64 v.imm, .int .i64 v.label], .agg #[.int .i64 v.op, .int .i64 v.a, .int .i64 v.b, .int .i64 v.c, .int .i64 v.k, .int .i64 v.sub, .int .i64 v.scale, .int .i64 128, .int .i64 0]] w.heap.size SS) (by kernel_rfl) (by kernel_rfl) rfl rfl rfl (by kernel_rfl) (by kernel_rfl) (fun i x w0 w1 hi h g => psiE_stable h g) ?_ ?_ ?_
  ·simp only [List.take_succ_cons, List.take_zero]
   refine ⟨?_, ?_, ?_, ?_, ?_, ?_, ?_, ?_, ?_, ?_, ?_, ?_, ?_, ?_, ?_, ?_, trivial⟩
   ·intro V W0 A g hV hs hz
    have gD : w.grownBy W0 none := gtr (grown_drew (World.grownBy.refl _ none)) g
    have e00 := hz 0 (.pointer (some ⟨B, 0, none⟩)) (by kernel_rfl) rfl
    clear hV hs hz
    refine outO_val (v := .pointer (some ⟨B, 0, none⟩)) (w' := W0) ?_ gr0 (psiE_mk (by simp) rfl)
    simp [go_sem, e00]
   ·intro V W0 A g hV hs hz
    have gD : w.grownBy W0 none := gtr (grown_drew (World.grownBy.refl _ none)) g
    have q0 : V 0 = .pointer (some ⟨B, 0, none⟩) := psiE_f (hV 0 (by kernel_rfl)) (by simp)
    have e0 := hs 13 0 (by kernel_rfl) (by kernel_rfl)
    clear hV hs hz
    refine outO_val (v := .pointer (some ⟨B, 0, none⟩)) (w' := W0) ?_ gr0 (psiE_mk (by simp) rfl)
    simp [go_sem, q0, e0]
   ·intro V W0 A g hV hs hz
    have gD : w.grownBy W0 none := gtr (grown_drew (World.grownBy.refl _ none)) g
    have q1 : V 1 = .pointer (some ⟨B, 0, none⟩) := psiE_f (hV 1 (by kernel_rfl)) (by simp)
    have e1 := hs 14 1 (by kernel_rfl) (by kernel_rfl)
    clear hV hs hz
    refine outO_val (v := .pointer (some ⟨B, 0, none⟩)) (w' := W0) ?_ gr0 (psiE_mk (by simp) rfl)
    simp [go_sem, q1, e1]
   ·intro V W0 A g hV hs hz
    have gD : w.grownBy W0 none := gtr (grown_drew (World.grownBy.refl _ none)) g
    have q2 : V 2 = .pointer (some ⟨B, 0, none⟩) := psiE_f (hV 2 (by kernel_rfl)) (by simp)
    have e2 := hs 15 2 (by kernel_rfl) (by kernel_rfl)
    have x0 := gD.cell c0 (by simp)
    clear hV hs hz
    refine outO_val (v := .func (.func 61) #[] #[]) (w' := W0) ?_ gr0 (psiE_mk (by simp) rfl)
    simp [go_sem, q2, e2, x0]
   ·intro V W0 A g hV hs hz
    have gD : w.grownBy W0 none := gtr (grown_drew (World.grownBy.refl _ none)) g
    have e00 := hz 0 (.pointer (some ⟨B, 0, none⟩)) (by kernel_rfl) rfl
    clear hV hs hz
    refine outO_val (v := .pointer (some ⟨B, 0, none⟩)) (w' := W0) ?_ gr0 (psiE_mk (by simp) rfl)
    simp [go_sem, e00]
   ·intro V W0 A g hV hs hz
    have gD : w.grownBy W0 none := gtr (grown_drew (World.grownBy.refl _ none)) g
    have q4 : V 4 = .pointer (some ⟨B, 0, none⟩) := psiE_f (hV 4 (by kernel_rfl)) (by simp)
    have e4 := hs 17 4 (by kernel_rfl) (by kernel_rfl)
    clear hV hs hz
    refine outO_val (v := .pointer (some ⟨B, 0, none⟩)) (w' := W0) ?_ gr0 (psiE_mk (by simp) rfl)
    simp [go_sem, q4, e4]
   ·intro V W0 A g hV hs hz
    have gD : w.grownBy W0 none := gtr (grown_drew (World.grownBy.refl _ none)) g
    have q5 : V 5 = .pointer (some ⟨B, 0, none⟩) := psiE_f (hV 5 (by kernel_rfl)) (by simp)
    have e5 := hs 18 5 (by kernel_rfl) (by kernel_rfl)
    clear hV hs hz
    refine outO_val (v := .pointer (some ⟨B, 1, none⟩)) (w' := W0) ?_ gr0 (psiE_mk (by simp) rfl)
    simp [go_sem, q5, e5]
   ·intro V W0 A g hV hs hz
    have gD : w.grownBy W0 none := gtr (grown_drew (World.grownBy.refl _ none)) g
    have q6 : V 6 = .pointer (some ⟨B, 1, none⟩) := psiE_f (hV 6 (by kernel_rfl)) (by simp)
    have e6 := hs 19 6 (by kernel_rfl) (by kernel_rfl)
    have x0 := gD.cell c1 (by simp)
    clear hV hs hz
    refine outO_val (v := .slice (some ⟨bi, offi, none⟩) n ic) (w' := W0) ?_ gr0 (psiE_mk (by simp) rfl)
    simp [go_sem, q6, e6, x0]
   ·intro V W0 A g hV hs hz
    have gD : w.grownBy W0 none := gtr (grown_drew (World.grownBy.refl _ none)) g
    have e01 := hz 1 (.int .i64 (m : Int)) (by kernel_rfl) rfl
    clear hV hs hz
    refine outO_val (v := .int .i64 (m : Int)) (w' := W0) ?_ gr0 (psiE_mk (by simp) rfl)
    simp [go_sem, e01]
   ·intro V W0 A g hV hs hz
    have gD : w.grownBy W0 none := gtr (grown_drew (World.grownBy.refl _ none)) g
    have q7 : V 7 = .slice (some ⟨bi, offi, none⟩) n ic := psiE_f (hV 7 (by kernel_rfl)) (by simp)
    have e7 := hs 20 7 (by kernel_rfl) (by kernel_rfl)
    have q8 : V 8 = .int .i64 (m : Int) := psiE_f (hV 8 (by kernel_rfl)) (by simp)
    have e8 := hs 21 8 (by kernel_rfl) (by kernel_rfl)
    clear hV hs hz
    refine outO_val (v := .pointer (some ⟨bi, offi + m * 9, none⟩)) (w' := W0) ?_ gr0 (psiE_mk (by simp) rfl)
    simp [go_sem, q7, e7, q8, e8, hmn]
   ·intro V W0 A g hV hs hz
    have gD : w.grownBy W0 none := gtr (grown_drew (World.grownBy.refl _ none)) g
    have q9 : V 9 = .pointer (some ⟨bi, offi + m * 9, none⟩) := psiE_f (hV 9 (by kernel_rfl)) (by simp)
    have e9 := hs 22 9 (by kernel_rfl) (by kernel_rfl)
    have x0 := gD.cell d0 (by simp)
    have x1 := gD.cell d1 (by simp)
    have x2 := gD.cell d2 (by simp)
    have x3 := gD.cell d3 (by simp)
    have x4 := gD.cell d4 (by simp)
    have x5 := gD.cell d5 (by simp)
    have x6 := gD.cell d6 (by simp)
    have x7 := gD.cell d7 (by simp)
    have x8 := gD.cell d8 (by simp)
    clear hV hs hz
    refine outO_val (v := .agg #[.int .i64 v.op, .int .i64 v.a, .int .i64 v.b, .int .i64 v.c, .int .i64 v.k, .int .i64 v.sub, .int .i64 v.scale, .int .i64 v.imm, .int .i64 v.label]) (w' := W0) ?_ gr0 (psiE_mk (by simp) rfl)
    simp [go_sem, q9, e9, x0, x1, x2, x3, x4, x5, x6, x7, x8]
   ·intro V W0 A g hV hs hz
    have gD : w.grownBy W0 none := gtr (grown_drew (World.grownBy.refl _ none)) g
    have q10 : V 10 = .agg #[.int .i64 v.op, .int .i64 v.a, .int .i64 v.b, .int .i64 v.c, .int .i64 v.k, .int .i64 v.sub, .int .i64 v.scale, .int .i64 v.imm, .int .i64 v.label] := psiE_f (hV 10 (by kernel_rfl)) (by simp)
    have e10 := hs 23 10 (by kernel_rfl) (by kernel_rfl)
    clear hV hs hz
    refine outO_call (f := 47) ?_ ((HLd.out W0).mono fun e w2 ⟨he, hg⟩ => ⟨_, he, hg, psiE_mk (by simp) rfl⟩)
    simp [go_sem, q10, e10]
   ·intro V W0 A g hV hs hz
    have gD : w.grownBy W0 none := gtr (grown_drew (World.grownBy.refl _ none)) g
    have q3 : V 3 = .func (.func 61) #[] #[] := psiE_f (hV 3 (by kernel_rfl)) (by simp)
    have e3 := hs 16 3 (by kernel_rfl) (by kernel_rfl)
    have q11 : V 11 = .agg #[.int .i64 v.op, .int .i64 v.a, .int .i64 v.b, .int .i64 v.c, .int .i64 v.k, .int .i64 v.sub, .int .i64 v.scale, .int .i64 128, .int .i64 0] := psiE_f (hV 11 (by kernel_rfl)) (by simp)
    have e11 := hs 24 11 (by kernel_rfl) (by kernel_rfl)
    clear hV hs hz
    refine outO_call (f := 61) ?_ (psi_call (by have := g.size; exact this) (by simp) (by simp) (HEn.out W0 (HWd.out W0 gD)))
    simp [go_sem, q3, e3, q11, e11]
   ·intro V W0 A g hV hs hz
    obtain ⟨T1, k1, h1, o1⟩ := psiE_t (hV 12 (by kernel_rfl)) (by simp) (by simp)
    have e1 := hs 25 12 (by kernel_rfl) (by kernel_rfl)
    clear hV hs hz
    refine outO_val (v := V 12) (w' := W0) ?_ gr0 (psiE_mt (by simp) (by simp) ⟨T1, k1, h1, o1⟩)
    simp [go_sem, e1]
   ·intro V W0 A g hV hs hz
    obtain ⟨T1, k1, h1, o1⟩ := psiE_t (hV 13 (by kernel_rfl)) (by simp) (by simp)
    have e1 := hs 12 13 (by kernel_rfl) (by kernel_rfl)
    clear hV hs hz
    refine outO_val (v := .slice (some ⟨T1, 0, none⟩) SS.length k1) (w' := W0) ?_ gr0 (psiE_ms (by simp) ⟨T1, k1, rfl, o1⟩)
    simp [go_sem, e1, h1]
   ·intro V W0 A g hV hs hz
    obtain ⟨T1, k1, h1, o1⟩ := psiE_t (hV 13 (by kernel_rfl)) (by simp) (by simp)
    have e1 := hs 12 13 (by kernel_rfl) (by kernel_rfl)
    clear hV hs hz
    refine outO_val (v := .int .i64 0) (w' := W0) ?_ gr0 (psiE_me (by simp) rfl)
    simp [go_sem, e1, h1]
  ·intro V W0 g hV
   have gD : w.grownBy W0 none := gtr (grown_drew (World.grownBy.refl _ none)) g
   have h0 : V 0 = .pointer (some ⟨B, 0, none⟩) := psiE_f (hV 0 (by decide)) (by simp)
   have h1 : V 1 = .pointer (some ⟨B, 0, none⟩) := psiE_f (hV 1 (by decide)) (by simp)
   have h2 : V 2 = .pointer (some ⟨B, 0, none⟩) := psiE_f (hV 2 (by decide)) (by simp)
   have h3 : V 3 = .func (.func 61) #[] #[] := psiE_f (hV 3 (by decide)) (by simp)
   have h4 : V 4 = .pointer (some ⟨B, 0, none⟩) := psiE_f (hV 4 (by decide)) (by simp)
   have h5 : V 5 = .pointer (some ⟨B, 0, none⟩) := psiE_f (hV 5 (by decide)) (by simp)
   have h6 : V 6 = .pointer (some ⟨B, 1, none⟩) := psiE_f (hV 6 (by decide)) (by simp)
   have h7 : V 7 = .slice (some ⟨bi, offi, none⟩) n ic := psiE_f (hV 7 (by decide)) (by simp)
   have h8 : V 8 = .int .i64 (m : Int) := psiE_f (hV 8 (by decide)) (by simp)
   have h9 : V 9 = .pointer (some ⟨bi, offi + m * 9, none⟩) := psiE_f (hV 9 (by decide)) (by simp)
   have h10 : V 10 = .agg #[.int .i64 v.op, .int .i64 v.a, .int .i64 v.b, .int .i64 v.c, .int .i64 v.k, .int .i64 v.sub, .int .i64 v.scale, .int .i64 v.imm, .int .i64 v.label] := psiE_f (hV 10 (by decide)) (by simp)
   have h11 : V 11 = .agg #[.int .i64 v.op, .int .i64 v.a, .int .i64 v.b, .int .i64 v.c, .int .i64 v.k, .int .i64 v.sub, .int .i64 v.scale, .int .i64 128, .int .i64 0] := psiE_f (hV 11 (by decide)) (by simp)
   obtain ⟨T1, k1, h12, _⟩ := psiE_t (hV 12 (by decide)) (by simp) (by simp)
   obtain ⟨T2, k2, h13, _⟩ := psiE_t (hV 13 (by decide)) (by simp) (by simp)
   obtain ⟨T3, k3, h14, _⟩ := psiE_s (hV 14 (by decide)) (by simp)
   have h15 := psiE_e (hV 15 (by decide)) (by simp)
   rw [hSl] at h12 h13 h14
   simp [frV, dstOf, Act.put, h0, h1, h2, h3, h4, h5, h6, h7, h8, h9, h10, h11, h12, h13, h14, h15]
   clear h0 h1 h2 h3 h4 h5 h6 h7 h8 h9 h10 h11 h12 h13 h14 h15 hV g
   have GR : Hid (w.grownBy W0 none) := gD
   clear gD
   go_wp2_with fail
   go_meet
   exact ⟨T3, k3, rfl, rfl, GR.out⟩
  ·intro V W0 g hV hold
   have gD : w.grownBy W0 none := gtr (grown_drew (World.grownBy.refl _ none)) g
   have h0 : V 0 = .pointer (some ⟨B, 0, none⟩) := psiE_f (hV 0 (by decide) (by decide)) (by simp)
   have h1 : V 1 = .pointer (some ⟨B, 0, none⟩) := psiE_f (hV 1 (by decide) (by decide)) (by simp)
   have h2 : V 2 = .pointer (some ⟨B, 0, none⟩) := psiE_f (hV 2 (by decide) (by decide)) (by simp)
   have h3 : V 3 = .func (.func 61) #[] #[] := psiE_f (hV 3 (by decide) (by decide)) (by simp)
   have h4 : V 4 = .pointer (some ⟨B, 0, none⟩) := psiE_f (hV 4 (by decide) (by decide)) (by simp)
   have h5 : V 5 = .pointer (some ⟨B, 0, none⟩) := psiE_f (hV 5 (by decide) (by decide)) (by simp)
   have h6 : V 6 = .pointer (some ⟨B, 1, none⟩) := psiE_f (hV 6 (by decide) (by decide)) (by simp)
   have h7 : V 7 = .slice (some ⟨bi, offi, none⟩) n ic := psiE_f (hV 7 (by decide) (by decide)) (by simp)
   have h8 : V 8 = .int .i64 (m : Int) := psiE_f (hV 8 (by decide) (by decide)) (by simp)
   have h9 : V 9 = .pointer (some ⟨bi, offi + m * 9, none⟩) := psiE_f (hV 9 (by decide) (by decide)) (by simp)
   have h10 : V 10 = .agg #[.int .i64 v.op, .int .i64 v.a, .int .i64 v.b, .int .i64 v.c, .int .i64 v.k, .int .i64 v.sub, .int .i64 v.scale, .int .i64 v.imm, .int .i64 v.label] := psiE_f (hV 10 (by decide) (by decide)) (by simp)
   have h11 : V 11 = .agg #[.int .i64 v.op, .int .i64 v.a, .int .i64 v.b, .int .i64 v.c, .int .i64 v.k, .int .i64 v.sub, .int .i64 v.scale, .int .i64 128, .int .i64 0] := psiE_f (hV 11 (by decide) (by decide)) (by simp)
   obtain ⟨T1, k1, h12, _⟩ := psiE_t (hV 12 (by decide) (by decide)) (by simp) (by simp)
   obtain ⟨T2, k2, h13, _⟩ := psiE_t (hV 13 (by decide) (by decide)) (by simp) (by simp)
   obtain ⟨T3, k3, h14, _⟩ := psiE_s (hV 14 (by decide) (by decide)) (by simp)
   obtain ⟨y, h15⟩ : ∃ y, V 15 = y := ⟨_, rfl⟩
   rw [hSl] at h12 h13 h14
   simp [frV, dstOf, Act.put, h0, h1, h2, h3, h4, h5, h6, h7, h8, h9, h10, h11, h12, h13, h14, h15]
   clear h0 h1 h2 h3 h4 h5 h6 h7 h8 h9 h10 h11 h12 h13 h14 h15 hV g hold
   have GR : Hid (w.grownBy W0 none) := gD
   clear gD
   go_wp2_with fail
   go_meet
   exact ⟨T3, k3, rfl, rfl, GR.out⟩
 case rest =>
  obtain ⟨T', c', rfl, rfl, g1⟩ := hcut
  obtain ⟨W2, hwc⟩ : ∃ x, x = wc := ⟨_, rfl⟩
  rw [← hwc] at g1 ⊢
  clear hwc
  have cs2 := g1.cell cs (by simp)
  have c32 := g1.cell c3 (by simp)
  have f2 := (HO.out.grow g1).frozen m
  have HO3 : Hid (OwnN (W2.setCell ⟨T, m, none⟩ (.int .i64 6)) N (.slice (some ⟨T, 0, none⟩) n n) n Z) := ((HO.out.grow g1).set hm 6).congr HSz.out
  have HJ3 : Hid (OwnN (W2.setCell ⟨T, m, none⟩ (.int .i64 6)) N (.slice (some ⟨TJ, 0, none⟩) n n) n J) := (HJ.out.grow g1).kept (grown_set _ _ _ _) (.inr (by simp [Value.ownBlock]; omega))
  have HC3 : Hid (Ch w (W2.setCell ⟨T, m, none⟩ (.int .i64 6)) [T, TJ]) := (Ch.of g1).trans (Ch.one (grown_set _ _ _ _) (by simp))
  have HC1 : Hid (w.cell? ⟨B, 1, none⟩ = some (.slice (some ⟨bi, offi, none⟩) n ic)) := c1
  clear g1 HEn HLd HWd c0 c1 d0 d1 d2 d3 d4 d5 d6 d7 d8 cs c3 hSl HSz HO HJ
  have hX : ∀ k, -6 ≤ (6 - Y m) * O k ∧ (6 - Y m) * O k ≤ 6 := fun k => by
   rcases HOr.out k with e | e | e <;> rw [e] <;> omega
  have HX : Hid (∀ k, -6 ≤ (6 - Y m) * O k ∧ (6 - Y m) * O k ≤ 6) := hX
  clear hX
  have hTJw : TJ < w.heap.size := HTJ.out.1
  have hTw : T < w.heap.size := HTJ.out.2
  go_wp2_with fail
  all_goals
   go_loopw [10, 11] (fun l j wr => ∃ k : Nat, j = .int .i64 k ∧ lo ≤ k ∧ k ≤ hi ∧ OwnZ wr w.heap.size l (Lk.nl J U lo k) ∧ OwnN wr N (.slice (some ⟨T, 0, none⟩) n n) n Z ∧ OwnN wr N (.slice (some ⟨TJ, 0, none⟩) n n) n (Lk.mid J U lo k) ∧ Ch w wr [T, TJ]) (fun _ j _ => n - (intOf j).toNat)
   case atStart => exact ⟨lo, by (congr 1; have := HLo.out; omega), Nat.le_refl _, HHi.out.2.2.2, by rw [Lk.nl_low J U lo lo (Nat.le_refl _)]; exact World.ownsRow_nil _ _ _ _, HO3.out, HJ3.out.congr (fun i _ => by unfold Lk.mid; rw [if_neg (by omega)]), HC3.out⟩
   case round =>
    obtain ⟨al, hal⟩ : ∃ al, al = u10 := ⟨_, rfl⟩
    obtain ⟨k, rfl, hk1, hk2, hoZ, hoT, hoJ, hch⟩ := hrel
    rw [← hal] at hoZ ⊢
    clear hal
    have HOZ : Hid (OwnZ wr w.heap.size al (Lk.nl J U lo k)) := hoZ
    have HOT : Hid (OwnN wr N (.slice (some ⟨T, 0, none⟩) n n) n Z) := hoT
    have HOJ : Hid (OwnN wr N (.slice (some ⟨TJ, 0, none⟩) n n) n (Lk.mid J U lo k)) := hoJ
    have HCH : Hid (Ch w wr [T, TJ]) := hch
    have c1r := hch.cell HC1.out (b := B) (by simp; exact ⟨hBT, hBJ⟩)
    have hwr := hch.size
    have hll := Lk.nl_len J U lo k
    obtain ⟨hi1, hi2, hi3, hi4⟩ := HHi.out
    clear hoT hoJ hch
    by_cases hkn : k < n ∧ k < m + 129
    ·have hk1' : (k : Int) < n := by omega
     have hk2' : (k : Int) < (m : Int) + 129 := by omega
     have hk2'' : (k : Int) < (m : Int) + 128 + 1 := by omega
     have hkhi := hi3 k hkn.1 hkn.2
     have ck := HOJ.out.cell hkn.1
     have fk := HOJ.out.frozen k
     have emid : Lk.mid J U lo k k = J k := by unfold Lk.mid; rw [if_neg (by omega)]
     rw [emid] at ck
     obtain ⟨ao, cp, rfl, _⟩ := hoZ.slice
     clear hoZ emid
     have HUk := HBu.out k
     have HNl : Hid (Lk.nl J U lo (k + 1) = Lk.nl J U lo k ++ if decide (lo ≤ k) && (Lk.fitB (J k) && !Lk.fitB (U k)) then [(k : Int)] else []) := rfl
     have HMd : Hid (∀ i, Lk.mid J U lo (k + 1) i = if i = k then U k else Lk.mid J U lo k i) := fun i => by
      unfold Lk.mid
      by_cases e : i = k
      ·subst e; rw [if_pos (by omega), if_pos rfl]
      ·by_cases h1 : lo ≤ i ∧ i < k
       ·rw [if_pos (by omega), if_neg e, if_pos h1]
       ·rw [if_neg (by omega), if_neg e, if_neg h1]
     have hX := HX.out k
     obtain ⟨z, hz⟩ : ∃ z, z = J k := ⟨_, rfl⟩
     obtain ⟨Lz, hLz⟩ : ∃ Lz, Lz = Lk.nl J U lo k := ⟨_, rfl⟩
     rw [← hz] at ck HUk HNl
     rw [← hLz] at HOZ HNl hll ⊢
     clear hLz
     cases hf : Lk.fitB z
     ·rw [hf] at HUk HNl
      have HF : Hid (∀ W, Calls Tryz.prog 66 #[.int .i64 z] W fun e w' => e = .returned (.bool false) ∧ w' = W) := fun W => by rw [← hf]; exact fitb_any z W
      have HM0 : Hid (∀ i, Lk.mid J U lo k i = Lk.mid J U lo (k + 1) i) := fun i => by
       rw [HMd.out]
       by_cases e : i = k
       ·subst e
        rw [if_pos rfl, HUk]
        unfold Lk.mid
        rw [if_neg (by omega), ← hz]
        simp
       ·rw [if_neg e]
      clear HUk hz
      go_wp2_with (go_at_call 66; refine (HF.out _).mono ?_; rintro e w5 ⟨rfl, hw5⟩; rw [hw5]; clear hw5 w5)
      all_goals exact ⟨⟨k + 1, by go_num, by omega, by omega, HOZ.out.cast (by rw [HNl.out]; simp), HOT.out, HOJ.out.congr (fun i _ => HM0.out i), HCH.out⟩, by simp [intOf]; omega⟩
     ·rw [hf] at HUk HNl
      have hzr := Lk.fitB_iff.1 hf
      have HF : Hid (∀ W, Calls Tryz.prog 66 #[.int .i64 z] W fun e w' => e = .returned (.bool true) ∧ w' = W) := fun W => by rw [← hf]; exact fitb_any z W
      have HUe : Hid (U k = z + (6 - Y m) * O k) := by show _ = _; rw [HUk]; simp
      clear HUk hz
      have HOk : Hid (∀ y : Gw wr, Calls Tryz.prog 67 #[.pointer (some ⟨B, 0, none⟩), .int .i64 k, .int .i64 m] y.w fun e w' => e = .returned (.int .i64 (O k)) ∧ y.w.grownBy w' none) := fun y => HOv.out k hkn.1 y.w [T, TJ] (HCH.out.trans (Ch.of y.h)) (by simp; exact ⟨hT1, hT2⟩) (by simp; exact ⟨hBT, hBJ⟩)
      obtain ⟨ok, hok⟩ : ∃ ok, ok = O k := ⟨_, rfl⟩
      rw [← hok] at HOk HUe hX
      clear hok
      go_wp2_with (go_at_call 66; refine (HF.out _).mono ?_; rintro e w5 ⟨rfl, hw5⟩; rw [hw5]; clear hw5 w5)
      all_goals
       refine tail_class (fun w' => ∃ y : Gw wr, w' = y.w) 12 (by kernel_rfl) (by kernel_rfl) ⟨⟨wr.drew, grown_drew gr0⟩, rfl⟩ ?_
       have e1 := fun y : Gw wr => y.h.cell ck (by simp)
       simp only [List.take_succ_cons, List.take_zero, List.drop_succ_cons, List.drop_zero]
       repeat (go_big_quiet_step (first | exact rfl | (go_at_call 67; exact Gw.call (HOk.out _))))
       refine wpQuiet_nil ?_
       rintro W8 ⟨y8, hy8⟩
       have g : wr.grownBy W8 none := by rw [hy8]; exact y8.h
       clear hy8 y8 e1 ck fk c1r
       have f8 := (HOJ.out.grow g).frozen k
       have c8 := (HOJ.out.grow g).cell hkn.1
       have hs8 := g.size
       obtain ⟨X, hXe⟩ : ∃ X, X = z + (6 - Y m) * ok := ⟨_, rfl⟩
       have HO9 : Hid (OwnN (W8.setCell ⟨TJ, k, none⟩ (.int .i64 X)) N (.slice (some ⟨TJ, 0, none⟩) n n) n (Lk.mid J U lo (k + 1))) := ((HOJ.out.grow g).set hkn.1 _).congr (fun i hi => by
        unfold setF
        rw [HMd.out, HUe.out, hXe])
       have HT9 : Hid (OwnN (W8.setCell ⟨TJ, k, none⟩ (.int .i64 X)) N (.slice (some ⟨T, 0, none⟩) n n) n Z) := (HOT.out.grow g).kept (grown_set _ _ _ _) (.inr (by simp [Value.ownBlock]; omega))
       have HC9 : Hid (Ch w (W8.setCell ⟨TJ, k, none⟩ (.int .i64 X)) [T, TJ]) := (HCH.out.trans (Ch.of g)).trans (Ch.one (grown_set _ _ _ _) (by simp))
       have HZ9 : Hid (OwnZ (W8.setCell ⟨TJ, k, none⟩ (.int .i64 X)) w.heap.size (.slice ao Lz.length cp) Lz) := (HOZ.out.grow g).kept (grown_set _ _ _ _) (by
        cases hb : (Value.slice ao Lz.length cp).ownBlock with
        | none => exact .inl rfl
        | some b => exact .inr (by have := HOZ.out.base b hb; have := HJ3.out.lt TJ rfl; simp; intro e; subst e; have := hTJw; omega))
       have ck9 : (W8.setCell ⟨TJ, k, none⟩ (.int .i64 X)).cell? ⟨TJ, k, none⟩ = some (.int .i64 X) := World.cell?_setCell_same _ _ _ c8
       have hUX : U k = X := by rw [hXe]; exact HUe.out
       have hsz9 : (W8.setCell ⟨TJ, k, none⟩ (.int .i64 X)).heap.size = W8.heap.size := by simp
       have hs9 : w.heap.size ≤ (W8.setCell ⟨TJ, k, none⟩ (.int .i64 X)).heap.size := HC9.out.size
       rw [hUX] at HNl
       cases hf2 : Lk.fitB X
       ·rw [hf2] at HNl
        have HF2 : Hid (∀ W, Calls Tryz.prog 66 #[.int .i64 X] W fun e w' => e = .returned (.bool false) ∧ w' = W) := fun W => by rw [← hf2]; exact fitb_any X W
        clear hUX hf2 HF HOJ HOT HCH HOZ
        rw [← hXe]
        clear hXe hX
        go_wp2_with (first | (go_at_call 66; refine (HF2.out _).mono ?_; rintro e w5 ⟨rfl, hw5⟩; rw [hw5]; clear hw5 w5) | (at_builtin; refine wp_appZ rfl _ _ rfl w.heap.size (.slice ao Lz.length cp) Lz (k : Int) rfl HZ9.out (by rw [hsz9]; rfl) (by omega) hs9 ?_; intro v' w6 ho6 hg6))
        have hne6 : ∀ b, (Value.slice ao Lz.length cp).ownBlock = some b → w.heap.size ≤ b := HZ9.out.base
        have hk6 : ∀ T0, T0 < w.heap.size → (Value.slice (some ⟨T0, 0, none⟩) n n).ownBlock = none ∨ (Value.slice (some ⟨T0, 0, none⟩) n n).ownBlock ≠ (Value.slice ao Lz.length cp).ownBlock := fun T0 h0 => .inr (by
         show some T0 ≠ _
         intro e
         have := hne6 T0 e.symm
         omega)
        exact ⟨⟨k + 1, by go_num, by omega, by omega, ho6.cast (by rw [HNl.out]; simp [hk1]), HT9.out.kept hg6 (hk6 T hTw), HO9.out.kept hg6 (hk6 TJ hTJw), chApp HC9.out hg6 hne6⟩, by simp [intOf]; omega⟩
       ·rw [hf2] at HNl
        have HF2 : Hid (∀ W, Calls Tryz.prog 66 #[.int .i64 X] W fun e w' => e = .returned (.bool true) ∧ w' = W) := fun W => by rw [← hf2]; exact fitb_any X W
        clear hUX hf2 HF HOJ HOT HCH HOZ
        rw [← hXe]
        clear hXe hX
        go_wp2_with (first | (go_at_call 66; refine (HF2.out _).mono ?_; rintro e w5 ⟨rfl, hw5⟩; rw [hw5]; clear hw5 w5))
        exact ⟨⟨k + 1, by go_num, by omega, by omega, HZ9.out.cast (by rw [HNl.out]; simp), HT9.out, HO9.out, HC9.out⟩, by simp [intOf]; omega⟩
    ·obtain rfl : k = hi := by
      by_cases h1 : k < n
      ·by_cases h2 : k < m + 129
       ·exact absurd ⟨h1, h2⟩ hkn
       ·omega
      ·omega
     have hend : (k : Int) = n ∨ (k : Int) = (m : Int) + 129 := by
      by_cases h1 : k < n
      ·by_cases h2 : k < m + 129
       ·exact absurd ⟨h1, h2⟩ hkn
       ·omega
      ·omega
     have HE1 : Hid (∀ i, i < n → Lk.mid J U lo k i = U i) := fun i hi' => by
      unfold Lk.mid
      by_cases h1 : lo ≤ i ∧ i < k
      ·rw [if_pos h1]
      ·rw [if_neg h1]
       have hl := HLo.out
       exact (HNr.out i hi' (by omega)).symm
     rcases hend with he | he
     all_goals
      go_wp2
      all_goals
       go_ret
       exact ⟨_, rfl, HOZ.out, HOT.out, HOJ.out.congr HE1.out, HCH.out⟩
end Go.Proofs.YtkiockffejlnhaaGreatDoor
