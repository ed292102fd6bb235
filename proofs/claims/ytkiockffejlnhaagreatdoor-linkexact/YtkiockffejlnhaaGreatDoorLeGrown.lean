/- gantryref6.grown. -/
import Derived.Test.YtkiockffejlnhaaGreatDoorG20
namespace Go.Proofs.YtkiockffejlnhaaGreatDoor
set_option maxRecDepth 100000
set_option maxHeartbeats 32000000
open Go.RowKit
set_option linter.unusedVariables false
def OwnF (w : World) (base : Nat) (v : Value) (n : Nat) (L : Nat → Bool) : Prop := w.ownsRow base 4 1 v n ((List.range n).map fun i => Value.bool (L i))
theorem OwnF.grow {w w' : World} {base n : Nat} {v : Value} {L : Nat → Bool} (h : OwnF w base v n L) (hg : w.grownBy w' none) : OwnF w' base v n L := World.ownsRow.kept h hg (Classical.em _)
theorem OwnF.cell {w : World} {base n c T : Nat} {L : Nat → Bool} (h : OwnF w base (.slice (some ⟨T, 0, none⟩) n c) n L) {i : Nat} (hi : i < n) : w.cell? ⟨T, i, none⟩ = some (.bool (L i)) := by
 rw [World.ownsRow.cellAt h i (by omega), List.getElem?_map, List.getElem?_range hi]
 rfl
theorem OwnF.frozen {w : World} {base n c T : Nat} {L : Nat → Bool} (h : OwnF w base (.slice (some ⟨T, 0, none⟩) n c) n L) (i : Nat) : w.frozen? ⟨T, i, none⟩ = false := World.ownsRow.frozenAt h i
theorem OwnF.congr {w : World} {base n : Nat} {v : Value} {L L' : Nat → Bool} (h : OwnF w base v n L) (e : ∀ i, i < n → L i = L' i) : OwnF w base v n L' := by
 unfold OwnF at h ⊢
 rw [show (List.range n).map (fun i => Value.bool (L' i)) = (List.range n).map (fun i => Value.bool (L i)) from List.map_congr_left fun i hi => by rw [e i (List.mem_range.1 hi)]]
 exact h
theorem OwnF.set {w : World} {base n c T : Nat} {L : Nat → Bool} (h : OwnF w base (.slice (some ⟨T, 0, none⟩) n c) n L) {i : Nat} (hi : i < n) (x : Bool) : OwnF (w.setCell ⟨T, i, none⟩ (.bool x)) base (.slice (some ⟨T, 0, none⟩) n c) n (fun k => if k = i then x else L k) := by
 have := (World.ownsRow.stored h i (.bool x)).1
 unfold OwnF
 rw [show (List.range n).map (fun k => Value.bool (if k = i then x else L k)) = ((List.range n).map fun k => Value.bool (L k)).set i (.bool x) from ?_]
 ·exact this
 ·refine List.ext_getElem (by simp) fun k h1 h2 => ?_
  simp at h1
  simp [List.getElem_set]
  by_cases e : k = i
  ·subst e; simp
  ·simp [e, Ne.symm e]
theorem OwnF.far {w : World} {base n c T : Nat} {L : Nat → Bool} (h : OwnF w base (.slice (some ⟨T, 0, none⟩) n c) n L) (hc : n ≤ c) : FarIn w (some ⟨T, 0, none⟩) n c L := ⟨hc, .inr ⟨T, 0, rfl, fun i hi => by rw [Nat.zero_add]; exact h.cell hi⟩⟩
theorem info_bool : (Tryz.prog.info? 4).map (fun i => (i.zero, i.size, i.bytes)) = some (some (.bool false), 1, 1) := by kernel_rfl
theorem run_make_f (w : World) (n : Nat) (hn : (n : Int) ≤ 8796093022208) : ∃ w1, (Instr.makeSlice 67 (.int .i64 n) (.int .i64 n)).run Tryz.prog w = .ok (.slice (some ⟨w.heap.size, 0, none⟩) n n) w1 ∧ OwnF w1 w.heap.size (.slice (some ⟨w.heap.size, 0, none⟩) n n) n (fun _ => false) ∧ w.grownBy w1 none := by
 obtain ⟨i, hi, hz0, hz1, hz2⟩ := info_parts info_bool
 have := run_make (P := Tryz.prog) w 67 4 i (.bool false) Tryz.underlying67 hi hz0 .i64 .i64 n n (by omega) (by omega) (by rw [hz2]; omega) (by omega)
 rw [hz1] at this
 simp only [Int.toNat_natCast, Nat.mul_one] at this
 refine ⟨_, this, ?_, gal⟩
 have e : madeCells (Value.bool false).cells n = ((List.range n).map fun _ => Value.bool false).toArray := by
  apply Array.ext
  ·simp [madeCells]
  ·intro k h1 h2
   simp [madeCells, Value.cells, Nat.mod_one]
 rw [e]
 have := World.ownsRow_lit (base := w.heap.size) (e := 4) (size := 1) w ((List.range n).map fun _ => Value.bool false).toArray n (Nat.le_refl _) (by unfold maxLen; omega) (by simp)
 simpa [OwnF] using this
namespace Lk
def shorts (L : Nat → Bool) : Nat → Nat
 | 0 => 0
 | k + 1 => shorts L k + if L k then 0 else 1
theorem shorts_congr {L L' : Nat → Bool} : ∀ {k : Nat}, (∀ i, i < k → L i = L' i) → shorts L k = shorts L' k
 | 0, _ => rfl
 | k + 1, h => by unfold shorts; rw [shorts_congr (fun i hi => h i (by omega)), h k (by omega)]
theorem shorts_le {L L' : Nat → Bool} (h : ∀ i, L i = true → L' i = true) : ∀ k, shorts L' k ≤ shorts L k
 | 0 => Nat.le_refl _
 | k + 1 => by
  have := shorts_le h k
  have := h k
  unfold shorts
  cases hL : L k <;> cases hL' : L' k <;> simp_all <;> omega
theorem shorts_lt {L L' : Nat → Bool} (h : ∀ i, L i = true → L' i = true) {m : Nat} (h1 : L m = false) (h2 : L' m = true) : ∀ {k}, m < k → shorts L' k < shorts L k
 | 0, hk => by omega
 | k + 1, hk => by
  by_cases e : m = k
  ·subst e
   have := shorts_le h m
   unfold shorts
   simp [h1, h2]
   omega
  ·have := shorts_lt h h1 h2 (k := k) (by omega)
   have := h k
   unfold shorts
   cases hL : L k <;> cases hL' : L' k <;> simp_all <;> omega
def Sh.bad (H : Sh) (L : Nat → Bool) (i : Nat) : Bool := H.j i && !L i && !fitB (H.imm L i)
def Sh.step (H : Sh) (L : Nat → Bool) (k i : Nat) : Bool := L i || (decide (i < k) && H.bad L i)
theorem Sh.step_zero (H : Sh) (L : Nat → Bool) (i : Nat) : H.step L 0 i = L i := by unfold Sh.step; simp
theorem Sh.step_bad {H : Sh} {L : Nat → Bool} {k : Nat} (hb : H.bad L k = true) (i : Nat) : H.step L (k + 1) i = if i = k then true else H.step L k i := by
 unfold Sh.step
 by_cases e : i = k
 ·subst e; simp [hb]
 ·rw [if_neg e]
  congr 2
  simp
  omega
theorem Sh.step_ok {H : Sh} {L : Nat → Bool} {k : Nat} (hb : H.bad L k = false) (i : Nat) : H.step L (k + 1) i = H.step L k i := by
 unfold Sh.step
 by_cases e : i = k
 ·subst e; simp [hb]
 ·congr 2
  simp
  omega
theorem Sh.step_at (H : Sh) (L : Nat → Bool) (k : Nat) : H.step L k k = L k := by unfold Sh.step; simp
def Sh.anyB (H : Sh) (L : Nat → Bool) (k : Nat) : Bool := (List.range k).any (H.bad L)
theorem Sh.any_succ (H : Sh) (L : Nat → Bool) (k : Nat) : H.anyB L (k + 1) = (H.anyB L k || H.bad L k) := by unfold Sh.anyB; rw [List.range_succ, List.any_append]; simp
def Sh.Must (H : Sh) (L : Nat → Bool) : Prop := ∀ C, H.Closed C → ∀ i, i < H.n → H.j i = true → L i = true → C i = true
theorem Sh.must_step {H : Sh} (h : H.Ok) {L : Nat → Bool} (hm : H.Must L) : H.Must (H.step L H.n) := by
 intro C hC i hi hj hs
 unfold Sh.step at hs
 cases hL : L i
 ·rw [hL] at hs
  simp [Sh.bad] at hs
  exact hC i hi hj (h.far_mono (fun k hk hkj hx => hm C hC k hk hkj hx) hi hj (by simpa using hs.2.2))
 ·exact hm C hC i hi hj hL
theorem Sh.least_of {H : Sh} {L : Nat → Bool} (hm : H.Must L) (ha : H.anyB L H.n = false) : H.Least L where
 cl := fun i hi hj hf => by
  unfold Sh.anyB at ha
  rw [List.any_eq_false] at ha
  have := ha i (List.mem_range.2 hi)
  cases hL : L i
  ·simp [Sh.bad, hj, hL, hf] at this
  ·rfl
 le := fun C hC i hi hj hL => hm C hC i hi hj hL
theorem Sh.any_true {H : Sh} {L : Nat → Bool} (ha : H.anyB L H.n = true) : shorts (H.step L H.n) H.n < shorts L H.n := by
 unfold Sh.anyB at ha
 rw [List.any_eq_true] at ha
 obtain ⟨i, hi, hb⟩ := ha
 have hi' := List.mem_range.1 hi
 refine shorts_lt (fun k hk => by unfold Sh.step; simp [hk]) (m := i) ?_ ?_ hi'
 ·simp [Sh.bad] at hb; simp [hb]
 ·unfold Sh.step; simp [hb, hi']
end Lk
theorem size_fit (x : Int) : decide (0 < Cc.size x) = !Lk.fitB x := by
 unfold Cc.size
 by_cases h : -128 ≤ x ∧ x < 128
 ·have : Lk.fitB x = true := Lk.fitB_iff.2 h
  rw [this, if_pos (by omega)]
  rfl
 ·have : Lk.fitB x = false := by rw [Lk.fitB_no]; omega
  rw [this, if_neg (by omega)]
  split <;> rfl
def rdF (w : World) (T : Nat) (i : Nat) : Bool := match (w.cell? ⟨T, i, none⟩).getD undef with
 | .bool b => b
 | _ => false
theorem OwnF.rd {w : World} {base n c T : Nat} {L : Nat → Bool} (h : OwnF w base (.slice (some ⟨T, 0, none⟩) n c) n L) : Lk.shorts (rdF w T) n = Lk.shorts L n := Lk.shorts_congr fun i hi => by
 unfold rdF
 rw [h.cell hi]
 rfl
theorem rgrown_c {N : Nat} {w : World} {P : Lk.PcV} {ia ma : Option Addr} {ic mc : Nat} {out p : Int} {L0 : Nat → Bool} (h : InsIn N w ia P.n ic P.I) (hm : NumIn N w ma P.m mc P.M) (hok : P.Ok 2 p) (hL : (P.sh 2).Least L0) (hn : P.n * 72 ≤ reachBytes) (hN : N ≤ w.heap.size) :
  Calls Tryz.prog 29 #[.int .i64 2, .agg #[.slice ia P.n ic, .slice ma P.m mc, .int .i64 out]] w fun e w' => ∃ v1 v2, e = .returned (.tuple #[v1, v2]) ∧ OwnZ w' w.heap.size v2 ((List.range (P.n + 1)).map (Lk.pos ((P.sh 2).size L0))) ∧ w.grownBy w' none := by
 have hle := h.le
 have hmx := h.max
 have hml := hm.le
 have hmm := hm.max
 unfold maxLen at hmx hmm
 have hn72 : P.n * 72 ≤ 140737488351232 := hn
 have hn0 : (P.n : Int) ≤ 1954687338212 := by omega
 obtain ⟨H, hH⟩ : ∃ H, H = P.sh 2 := ⟨_, rfl⟩
 have hOk : H.Ok := by rw [hH]; exact hok.sh
 have hHn : H.n = P.n := by rw [hH]; rfl
 have HL : Hid (H.Least L0) := by rw [hH]; exact hL
 have HSz : Hid (∀ L i, szT 2 (P.I i) (L i) = H.size L i) := fun L i => by rw [hH]; rfl
 have HJ : Hid (∀ i, H.j i = Lk.jmpB (P.I i).op) := fun i => by rw [hH]; rfl
 have HR : Hid (∀ i, i < P.n → Lk.jmpB (P.I i).op = true → ∃ lb mk : Nat, (P.I i).label = lb ∧ lb < P.m ∧ P.M lb = mk ∧ mk ≤ P.n ∧ H.tg i = mk) := fun i hi hj => by
  have hl := Lk.lab_jmp (hok.may hi).1 hj
  have hmk := hok.marks (P.I i).label.toNat (by omega)
  refine ⟨(P.I i).label.toNat, (P.M (P.I i).label.toNat).toNat, by omega, by omega, by omega, by omega, ?_⟩
  rw [hH]
  rfl
 rw [← hH]
 clear hok hL hH
 have g0 := World.grownBy_alloc w (.cells #[.slice ia P.n ic, .slice ma P.m mc, .int .i64 out] 48) none
 obtain ⟨W2, hmk2, ho2, hg2⟩ := run_make_f (w.alloc (.cells #[.slice ia P.n ic, .slice ma P.m mc, .int .i64 out] 48)) P.n (by omega)
 have c0 := hg2.cell (cells_new (w := w) #[.slice ia P.n ic, .slice ma P.m mc, .int .i64 out] 48 rfl 0) (by simp)
 have c1 := hg2.cell (cells_new (w := w) #[.slice ia P.n ic, .slice ma P.m mc, .int .i64 out] 48 rfl 1) (by simp)
 have c2 := hg2.cell (cells_new (w := w) #[.slice ia P.n ic, .slice ma P.m mc, .int .i64 out] 48 rfl 2) (by simp)
 have HG2 : Hid (w.grownBy W2 none) := gtr g0 hg2
 have s2 := hg2.size
 simp only [size_alloc] at ho2 s2
 have HO2 : Hid (OwnF W2 (w.heap.size + 1) (.slice (some ⟨w.heap.size + 1, 0, none⟩) P.n P.n) P.n (fun _ => false)) := ho2
 have HI : Hid (InsIn N W2 ia P.n ic P.I) := h.grow (gtr g0 hg2)
 have HM : Hid (NumIn N W2 ma P.m mc P.M) := hm.grow (gtr g0 hg2)
 obtain ⟨B, hB⟩ : ∃ B, B = w.heap.size := ⟨_, rfl⟩
 obtain ⟨F, hF⟩ : ∃ F, F = w.heap.size + 1 := ⟨_, rfl⟩
 have HB : Hid (B = w.heap.size ∧ F = w.heap.size + 1 ∧ F < W2.heap.size) := ⟨hB, hF, by rw [hF]; exact (World.ownsRow.lt ho2 _ rfl).2⟩
 clear h hm g0 ho2 hg2
 go_enter Tryz.func29, Tryz.ntmps29
 go_wp2_with fail
 clear hmk2
 rw [← hB] at c0 c1 c2
 rw [← hF] at HO2
 rw [← hF, ← hB]
 clear hB hF
 go_loopw [8] (fun m wr => ∃ L : Nat → Bool, OwnF wr F (.slice (some ⟨F, 0, none⟩) P.n P.n) P.n L ∧ H.Must L ∧ Ch W2 wr [F]) (fun _ wr => Lk.shorts (rdF wr F) P.n)
 case atStart => exact ⟨fun _ => false, HO2.out, (fun C hC i hi hj hL => by cases hL), Ch.refl _ _⟩
 case round =>
  obtain ⟨L, hoF, hmu, hch⟩ := hrel
  obtain ⟨wo, hwo⟩ : ∃ wo, wo = wr := ⟨_, rfl⟩
  rw [← hwo] at hoF hch ⊢
  clear hwo
  have HFo : Hid (OwnF wo F (.slice (some ⟨F, 0, none⟩) P.n P.n) P.n L) := hoF
  have HMu : Hid (H.Must L) := hmu
  have HCh : Hid (Ch W2 wo [F]) := hch
  have hBF : B ∉ [F] := by have := HB.out; simp; omega
  have hNF : ∀ k, k ∈ [F] → N ≤ k := fun k hk => by have := HB.out; simp at hk; omega
  have d0 := hch.cell c0 hBF
  have d1 := hch.cell c1 hBF
  have d2 := hch.cell c2 hBF
  have hFw : F < wo.heap.size := Nat.lt_of_lt_of_le HB.out.2.2 hch.size
  have HIo : Hid (InsIn N wo ia P.n ic P.I) := HI.out.ch hch hNF
  have HMo : Hid (NumIn N wo ma P.m mc P.M) := HM.out.ch hch hNF
  have hpl := rplaces6_any (t := 2) (.inr rfl) (m := P.m) (mc := mc) (ma := ma) (out := out) HIo.out (hoF.far (Nat.le_refl _)) hn0
  rw [show (fun i => szT 2 (P.I i) (L i)) = H.size L from funext fun i => HSz.out L i] at hpl
  have HPl : Hid (Calls Tryz.prog 51 #[.int .i64 2, .agg #[.slice ia P.n ic, .slice ma P.m mc, .int .i64 out], .slice (some ⟨F, 0, none⟩) P.n P.n] wo fun e w' => ∃ v, e = .returned v ∧ OwnZ w' wo.heap.size v ((List.range (P.n + 1)).map (Lk.pos (H.size L))) ∧ wo.grownBy w' none) := hpl
  clear hpl hoF hmu hch
  go_wp2_with (go_at_call 51; refine HPl.out.mono ?_; rintro e w7 ⟨v7, rfl, ho7, hg7⟩; have HO7 : Hid (OwnZ w7 wo.heap.size v7 ((List.range (P.n + 1)).map (Lk.pos (H.size L))) ∧ wo.grownBy w7 none) := ⟨ho7, hg7⟩; clear ho7 hg7)
  obtain ⟨a7, k7, hv7, hk7, hm7, ha7⟩ := HO7.out.1.slice
  have en1 : ((List.range (P.n + 1)).map (Lk.pos (H.size L))).length = P.n + 1 := by simp
  rw [en1] at hv7 hk7 ha7
  obtain ⟨T, rfl, hT1, hT2⟩ := ha7 (by omega)
  subst hv7
  have HC7 : Hid (∀ i, i < P.n + 1 → w7.cell? ⟨T, i, none⟩ = some (.int .i64 (Lk.pos (H.size L) i))) := fun i hi => by
   have := HO7.out.1.n
   rw [en1] at this
   have := this.cell hi
   rw [this]
   simp [List.getD_eq_getElem?_getD, hi]
  have HT : Hid (T ∉ [F]) := by show T ∉ [F]; simp; omega
  have HF7 : Hid (OwnF w7 F (.slice (some ⟨F, 0, none⟩) P.n P.n) P.n L) := HFo.out.grow HO7.out.2
  have HG7 : Hid (wo.grownBy w7 none) := HO7.out.2
  have HPr : Hid (∀ k : Nat, 0 ≤ Lk.pos (H.size L) k ∧ Lk.pos (H.size L) k ≤ 33 * (k : Int)) := fun k => pos_rng (fun i => by rw [← HSz.out L i]; exact szT_rng (.inr rfl) _ _) k
  have e0 := HG7.out.cell d0 (by simp)
  have e1 := HG7.out.cell d1 (by simp)
  have E01 : Hid (w7.cell? ⟨B, 0, none⟩ = some (.slice ia P.n ic) ∧ w7.cell? ⟨B, 1, none⟩ = some (.slice ma P.m mc) ∧ B ∉ [F]) := ⟨e0, e1, hBF⟩
  have HI7 : Hid (InsIn N w7 ia P.n ic P.I ∧ NumIn N w7 ma P.m mc P.M ∧ ∀ k, k ∈ [F] → N ≤ k) := ⟨HIo.out.grow HG7.out, HMo.out.grow HG7.out, hNF⟩
  have HZ7 : Hid (OwnZ w7 wo.heap.size (.slice (some ⟨T, 0, none⟩) (P.n + 1) k7) ((List.range (P.n + 1)).map (Lk.pos (H.size L)))) := HO7.out.1
  clear HIo HMo HPl HO7 d0 d1 d2 e0 e1 hBF hNF hT1 hT2 en1
  go_wp2_with fail
  go_loopw [8, 9] (fun m j wr => ∃ k : Nat, j = .int .i64 k ∧ k ≤ P.n ∧ m = .bool (H.anyB L k) ∧ OwnF wr F (.slice (some ⟨F, 0, none⟩) P.n P.n) P.n (H.step L k) ∧ Ch w7 wr [F]) (fun _ j _ => P.n - (intOf j).toNat)
  case atStart => exact ⟨0, rfl, Nat.zero_le _, rfl, HF7.out.congr (fun i _ => (Lk.Sh.step_zero H L i).symm), Ch.refl _ _⟩
  case round =>
   obtain ⟨k, rfl, hk, rfl, hoF, hch⟩ := hrel
   have HFk : Hid (OwnF wr F (.slice (some ⟨F, 0, none⟩) P.n P.n) P.n (H.step L k)) := hoF
   have HChk : Hid (Ch w7 wr [F]) := hch
   have d0 := hch.cell E01.out.1 E01.out.2.2
   have d1 := hch.cell E01.out.2.1 E01.out.2.2
   by_cases hkn : k < P.n
   case neg =>
    obtain rfl : k = P.n := by omega
    have hkn' : ¬ (P.n : Int) < P.n := by omega
    cases hany : H.anyB L P.n
    ·clear hoF hch
     go_wp2
     go_ret2
     have hLe : H.Least L := Lk.Sh.least_of HMu.out (by rw [hHn]; exact hany)
     have hsz := HG2.out.size
     have hsz2 := HCh.out.size
     refine ⟨_, _, rfl, ?_, ?_⟩
     ·have h1 := (HZ7.out.ch HChk.out (fun q hq => by simp [Value.ownBlock] at hq; subst hq; exact HT.out)).low (base' := w.heap.size) (by omega)
      rw [show (List.range (P.n + 1)).map (Lk.pos (H.size L)) = (List.range (P.n + 1)).map (Lk.pos (H.size L0)) from List.map_congr_left fun i hi => Lk.pos_congr fun q hq => hLe.same HL.out (by have := List.mem_range.1 hi; omega)] at h1
      rw [List.range_succ, List.map_append] at h1
      exact h1
     ·exact ((Ch.of (l := [F]) HG2.out).trans ((HCh.out.trans (Ch.of HG7.out)).trans HChk.out)).nil (fun q hq => by simp at hq; have := HB.out; omega)
    ·clear hoF hch
     go_wp2_with fail
     go_roundw
     case rel => exact ⟨H.step L P.n, HFk.out, by rw [← hHn]; exact Lk.Sh.must_step hOk HMu.out, (HCh.out.trans (Ch.of HG7.out)).trans HChk.out⟩
     case measure =>
      rw [HFk.out.rd, HFo.out.rd]
      have := Lk.Sh.any_true (H := H) (L := L) (by rw [hHn]; exact hany)
      rw [hHn] at this
      exact this
   have hkn' : (k : Int) < P.n := by omega
   obtain ⟨ib, io, rfl, hib, hi9, hir⟩ := (HI7.out.1.ch hch HI7.out.2.2).at hkn
   have i0 := hi9.c0
   have i8 := hi9.c8
   have f0 := hoF.cell hkn
   have z0 := hoF.frozen k
   rw [Lk.Sh.step_at] at f0
   have HJk := HJ.out k
   have HRk : Hid (Lk.jmpB (P.I k).op = true → ∃ lb mk : Nat, (P.I k).label = lb ∧ lb < P.m ∧ P.M lb = mk ∧ mk ≤ P.n ∧ H.tg k = mk) := HR.out k hkn
   have HMc : Hid (∀ i, i < P.m → ∃ b off, ma = some ⟨b, off, none⟩ ∧ wr.cell? ⟨b, off + i, none⟩ = some (.int .i64 (P.M i))) := fun i hi => by
    obtain ⟨b, off, e, _, hc⟩ := (HI7.out.2.1.ch hch HI7.out.2.2).at hi
    exact ⟨b, off, e, hc⟩
   have HTc : Hid (∀ i, i < P.n + 1 → wr.cell? ⟨T, i, none⟩ = some (.int .i64 (Lk.pos (H.size L) i))) := fun i hi => hch.cell (HC7.out i hi) HT.out
   generalize P.I k = v at *
   have HJm : Hid (∀ W, Calls Tryz.prog 30 #[.int .i64 v.op] W fun e w' => e = .returned (.bool (Lk.jmpB v.op)) ∧ w' = W) := fun W => rjumps_any v.op W
   clear hoF hch hir hi9
   have HJk : Hid (H.j k = Lk.jmpB v.op) := HJk
   cases hj : Lk.jmpB v.op
   ·have hb : H.bad L k = false := by unfold Lk.Sh.bad; rw [HJk.out, hj]; rfl
    have HBd : Hid (H.bad L k = false) := hb
    rw [hj] at HJm
    clear hj hb
    go_wp2_with (go_at_call 30; refine (HJm.out _).mono ?_; rintro e w8 ⟨rfl, hw8⟩; rw [hw8]; clear hw8 w8)
    go_roundw
    case rel => exact ⟨k + 1, by go_num, by omega, by rw [Lk.Sh.any_succ, HBd.out, Bool.or_false], HFk.out.congr (fun i _ => (Lk.Sh.step_ok HBd.out i).symm), HChk.out⟩
    case measure => simp [intOf]; omega
   obtain ⟨lb, mk, hlb, hlm, hmk, hmn, htg⟩ := HRk.out hj
   rw [hj] at HJm
   have HJ1 : Hid (H.j k = true) := by show _ = _; rw [HJk.out, hj]
   clear hj HRk HJk
   cases hLk : L k
   case true =>
    have HBd : Hid (H.bad L k = false) := by show _ = _; unfold Lk.Sh.bad; rw [hLk]; simp
    rw [hLk] at f0
    clear hLk
    go_wp2_with (go_at_call 30; refine (HJm.out _).mono ?_; rintro e w8 ⟨rfl, hw8⟩; rw [hw8]; clear hw8 w8)
    go_roundw
    case rel => exact ⟨k + 1, by go_num, by omega, by rw [Lk.Sh.any_succ, HBd.out, Bool.or_false], HFk.out.congr (fun i _ => (Lk.Sh.step_ok HBd.out i).symm), HChk.out⟩
    case measure => simp [intOf]; omega
   rw [hLk] at f0
   have HLk : Hid (L k = false) := hLk
   rw [hlb] at i8
   obtain ⟨mb, mo, rfl, hmc⟩ := HMc.out lb hlm
   rw [hmk] at hmc
   have t1 := HTc.out mk (by omega)
   have t2 := HTc.out (k + 1) (by omega)
   have r1 := HPr.out mk
   have r2 := HPr.out (k + 1)
   have HIm : Hid (H.imm L k = Lk.pos (H.size L) mk - Lk.pos (H.size L) (k + 1)) := by show _ = _; unfold Lk.Sh.imm; rw [htg]
   have hlm' : (lb : Int) < P.m := by omega
   have hmn' : (mk : Int) < (P.n : Int) + 1 := by omega
   have hk1 : (k : Int) + 1 < (P.n : Int) + 1 := by omega
   have hk2 : ¬ (k : Int) + 1 < 0 := by omega
   clear hLk hlb hmk htg
   generalize Lk.pos (H.size L) mk = x at *
   generalize Lk.pos (H.size L) (k + 1) = y at *
   have hwr : IntKind.i64.wrap (x - y) = x - y := by rw [IntKind.wrap_i64]; omega
   have hwk : IntKind.i64.wrap ((k : Int) + 1) = (k : Int) + 1 := by rw [IntKind.wrap_i64]; omega
   have HSi : Hid (∀ W, Calls Tryz.prog 52 #[.int .i64 (x - y)] W fun e w' => e = .returned (.int .i64 (Cc.size (x - y))) ∧ w' = W) := fun W => rsize_any _ _
   have HSf := size_fit (x - y)
   have HFr : Hid (F < wr.heap.size) := by have := HG7.out.size; have := HChk.out.size; show _ < _; omega
   cases hft : Lk.fitB (x - y)
   ·rw [hft] at HSf
    have hb : H.bad L k = true := by unfold Lk.Sh.bad; rw [HJ1.out, HLk.out, HIm.out, hft]; rfl
    have HBd : Hid (H.bad L k = true) := hb
    clear hb hft
    have HSf : decide (0 < Cc.size (x - y)) = true := HSf
    have HSf2 : 0 < Cc.size (x - y) := by simpa using HSf
    generalize Cc.size (x - y) = sz at *
    go_wp2_with (go_at_call 30; refine (HJm.out _).mono ?_; rintro e w8 ⟨rfl, hw8⟩; rw [hw8]; clear hw8 w8)
    refine region_src 18 (psiL [eqV (.slice (some ⟨T, 0, none⟩) (P.n + 1) k7), eqV (.pointer (some ⟨B, 1, none⟩)), eqV (.slice (some ⟨mb, mo, none⟩) P.m mc), eqV (.pointer (some ⟨B, 0, none⟩)), eqV (.slice (some ⟨ib, io, none⟩) P.n ic), eqV (.int .i64 (k : Int)), eqV (.pointer (some ⟨ib, io + k * 9, none⟩)), eqV (.pointer (some ⟨ib, io + k * 9 + 8, none⟩)), eqV (.int .i64 (lb : Int)), eqV (.pointer (some ⟨mb, mo + lb, none⟩)), eqV (.int .i64 (mk : Int)), eqV (.pointer (some ⟨T, mk, none⟩)), eqV (.int .i64 x), eqV (.slice (some ⟨T, 0, none⟩) (P.n + 1) k7), eqV (.int .i64 (k : Int)), eqV (.int .i64 ((k : Int) + 1)), eqV (.pointer (some ⟨T, k + 1, none⟩)), eqV (.int .i64 y)]) (by kernel_rfl) (by kernel_rfl) (by kernel_rfl) (by kernel_rfl) (psiL_hst (by repeat (first | exact stab_nil | refine stab_cons ?_ ?_ | exact stab_eq _))) ?_ ?_
    ·simp only [List.take_succ_cons, List.take_zero]
     refine ⟨?_, ?_, ?_, ?_, ?_, ?_, ?_, ?_, ?_, ?_, ?_, ?_, ?_, ?_, ?_, ?_, ?_, ?_, trivial⟩
     ·intro VV W0 AA g hV hs hz
      have e07 := hz 7 (.slice (some ⟨T, 0, none⟩) (P.n + 1) k7) (by kernel_rfl) rfl
      refine ov (v := .slice (some ⟨T, 0, none⟩) (P.n + 1) k7) ?_ rfl
      simp [go_sem, e07]
     ·intro VV W0 AA g hV hs hz
      have e03 := hz 3 (.pointer (some ⟨B, 0, none⟩)) (by kernel_rfl) rfl
      refine ov (v := .pointer (some ⟨B, 1, none⟩)) ?_ rfl
      simp [go_sem, e03]
     ·intro VV W0 AA g hV hs hz
      have gD : wr.grownBy W0 none := gdd g
      have q1 := psiL_eq (hV 1 (by kernel_rfl)) rfl
      have e1 := hs 45 1 (by kernel_rfl) (by kernel_rfl)
      have x0 := gD.cell d1 (by simp)
      refine ov (v := .slice (some ⟨mb, mo, none⟩) P.m mc) ?_ rfl
      simp [go_sem, q1, e1, x0]
     ·intro VV W0 AA g hV hs hz
      have e03 := hz 3 (.pointer (some ⟨B, 0, none⟩)) (by kernel_rfl) rfl
      refine ov (v := .pointer (some ⟨B, 0, none⟩)) ?_ rfl
      simp [go_sem, e03]
     ·intro VV W0 AA g hV hs hz
      have gD : wr.grownBy W0 none := gdd g
      have q3 := psiL_eq (hV 3 (by kernel_rfl)) rfl
      have e3 := hs 47 3 (by kernel_rfl) (by kernel_rfl)
      have x0 := gD.cell d0 (by simp)
      refine ov (v := .slice (some ⟨ib, io, none⟩) P.n ic) ?_ rfl
      simp [go_sem, q3, e3, x0]
     ·intro VV W0 AA g hV hs hz
      have e09 := hz 9 (.int .i64 (k : Int)) (by kernel_rfl) rfl
      refine ov (v := .int .i64 (k : Int)) ?_ rfl
      simp [go_sem, e09]
     ·intro VV W0 AA g hV hs hz
      have q4 := psiL_eq (hV 4 (by kernel_rfl)) rfl
      have e4 := hs 48 4 (by kernel_rfl) (by kernel_rfl)
      have q5 := psiL_eq (hV 5 (by kernel_rfl)) rfl
      have e5 := hs 49 5 (by kernel_rfl) (by kernel_rfl)
      refine ov (v := .pointer (some ⟨ib, io + k * 9, none⟩)) ?_ rfl
      simp [go_sem, q4, e4, q5, e5, hkn']
     ·intro VV W0 AA g hV hs hz
      have q6 := psiL_eq (hV 6 (by kernel_rfl)) rfl
      have e6 := hs 50 6 (by kernel_rfl) (by kernel_rfl)
      refine ov (v := .pointer (some ⟨ib, io + k * 9 + 8, none⟩)) ?_ rfl
      simp [go_sem, q6, e6]
     ·intro VV W0 AA g hV hs hz
      have gD : wr.grownBy W0 none := gdd g
      have q7 := psiL_eq (hV 7 (by kernel_rfl)) rfl
      have e7 := hs 51 7 (by kernel_rfl) (by kernel_rfl)
      have x0 := gD.cell i8 (by simp)
      refine ov (v := .int .i64 (lb : Int)) ?_ rfl
      simp [go_sem, q7, e7, x0]
     ·intro VV W0 AA g hV hs hz
      have q2 := psiL_eq (hV 2 (by kernel_rfl)) rfl
      have e2 := hs 46 2 (by kernel_rfl) (by kernel_rfl)
      have q8 := psiL_eq (hV 8 (by kernel_rfl)) rfl
      have e8 := hs 52 8 (by kernel_rfl) (by kernel_rfl)
      refine ov (v := .pointer (some ⟨mb, mo + lb, none⟩)) ?_ rfl
      simp [go_sem, q2, e2, q8, e8, hlm']
     ·intro VV W0 AA g hV hs hz
      have gD : wr.grownBy W0 none := gdd g
      have q9 := psiL_eq (hV 9 (by kernel_rfl)) rfl
      have e9 := hs 53 9 (by kernel_rfl) (by kernel_rfl)
      have x0 := gD.cell hmc (by simp)
      refine ov (v := .int .i64 (mk : Int)) ?_ rfl
      simp [go_sem, q9, e9, x0]
     ·intro VV W0 AA g hV hs hz
      have q0 := psiL_eq (hV 0 (by kernel_rfl)) rfl
      have e0 := hs 44 0 (by kernel_rfl) (by kernel_rfl)
      have q10 := psiL_eq (hV 10 (by kernel_rfl)) rfl
      have e10 := hs 54 10 (by kernel_rfl) (by kernel_rfl)
      refine ov (v := .pointer (some ⟨T, mk, none⟩)) ?_ rfl
      simp [go_sem, q0, e0, q10, e10, hmn']
     ·intro VV W0 AA g hV hs hz
      have gD : wr.grownBy W0 none := gdd g
      have q11 := psiL_eq (hV 11 (by kernel_rfl)) rfl
      have e11 := hs 55 11 (by kernel_rfl) (by kernel_rfl)
      have x0 := gD.cell t1 (by simp)
      refine ov (v := .int .i64 x) ?_ rfl
      simp [go_sem, q11, e11, x0]
     ·intro VV W0 AA g hV hs hz
      have e07 := hz 7 (.slice (some ⟨T, 0, none⟩) (P.n + 1) k7) (by kernel_rfl) rfl
      refine ov (v := .slice (some ⟨T, 0, none⟩) (P.n + 1) k7) ?_ rfl
      simp [go_sem, e07]
     ·intro VV W0 AA g hV hs hz
      have e09 := hz 9 (.int .i64 (k : Int)) (by kernel_rfl) rfl
      refine ov (v := .int .i64 (k : Int)) ?_ rfl
      simp [go_sem, e09]
     ·intro VV W0 AA g hV hs hz
      have q14 := psiL_eq (hV 14 (by kernel_rfl)) rfl
      have e14 := hs 58 14 (by kernel_rfl) (by kernel_rfl)
      refine ov (v := .int .i64 ((k : Int) + 1)) ?_ rfl
      simp [go_sem, q14, e14, hwk]
     ·intro VV W0 AA g hV hs hz
      have q13 := psiL_eq (hV 13 (by kernel_rfl)) rfl
      have e13 := hs 57 13 (by kernel_rfl) (by kernel_rfl)
      have q15 := psiL_eq (hV 15 (by kernel_rfl)) rfl
      have e15 := hs 59 15 (by kernel_rfl) (by kernel_rfl)
      refine ov (v := .pointer (some ⟨T, k + 1, none⟩)) ?_ rfl
      simp [go_sem, q13, e13, q15, e15, hk1, hk2]
     ·intro VV W0 AA g hV hs hz
      have gD : wr.grownBy W0 none := gdd g
      have q16 := psiL_eq (hV 16 (by kernel_rfl)) rfl
      have e16 := hs 60 16 (by kernel_rfl) (by kernel_rfl)
      have x0 := gD.cell t2 (by simp)
      refine ov (v := .int .i64 y) ?_ rfl
      simp [go_sem, q16, e16, x0]
    ·intro VV W0 g hV
     have gD : wr.grownBy W0 none := gdd g
     have h0 := psiL_eq (hV 0 (by decide)) rfl
     have h1 := psiL_eq (hV 1 (by decide)) rfl
     have h2 := psiL_eq (hV 2 (by decide)) rfl
     have h3 := psiL_eq (hV 3 (by decide)) rfl
     have h4 := psiL_eq (hV 4 (by decide)) rfl
     have h5 := psiL_eq (hV 5 (by decide)) rfl
     have h6 := psiL_eq (hV 6 (by decide)) rfl
     have h7 := psiL_eq (hV 7 (by decide)) rfl
     have h8 := psiL_eq (hV 8 (by decide)) rfl
     have h9 := psiL_eq (hV 9 (by decide)) rfl
     have h10 := psiL_eq (hV 10 (by decide)) rfl
     have h11 := psiL_eq (hV 11 (by decide)) rfl
     have h12 := psiL_eq (hV 12 (by decide)) rfl
     have h13 := psiL_eq (hV 13 (by decide)) rfl
     have h14 := psiL_eq (hV 14 (by decide)) rfl
     have h15 := psiL_eq (hV 15 (by decide)) rfl
     have h16 := psiL_eq (hV 16 (by decide)) rfl
     have h17 := psiL_eq (hV 17 (by decide)) rfl
     simp [frV, dstOf, Act.put, h0, h1, h2, h3, h4, h5, h6, h7, h8, h9, h10, h11, h12, h13, h14, h15, h16, h17]
     clear h0 h1 h2 h3 h4 h5 h6 h7 h8 h9 h10 h11 h12 h13 h14 h15 h16 h17 hV g
     have GR : Hid (wr.grownBy W0 none) := gD
     clear gD
     have f1 := GR.out.cell f0 (by simp)
     have z1 := frozenK (l := []) (Ch.of GR.out) HFr.out (by simp) z0
     clear f0 z0
     go_wp2_with (go_at_call 52; refine (HSi.out _).mono ?_; rintro e w9 ⟨rfl, hw9⟩; rw [hw9]; clear hw9 w9)
     go_roundw
     case rel => exact ⟨k + 1, by go_num, by omega, by rw [Lk.Sh.any_succ, HBd.out, Bool.or_true], ((HFk.out.grow GR.out).set hkn true).congr (fun i _ => (Lk.Sh.step_bad HBd.out i).symm), (HChk.out.trans (Ch.of GR.out)).trans (Ch.one (grown_set _ _ _ _) (by simp))⟩
     case measure => simp [intOf]; omega
   ·rw [hft] at HSf
    have hb : H.bad L k = false := by unfold Lk.Sh.bad; rw [HIm.out, hft]; simp
    have HBd : Hid (H.bad L k = false) := hb
    clear hb hft
    have HSf : decide (0 < Cc.size (x - y)) = false := HSf
    have HSf2 : ¬ 0 < Cc.size (x - y) := by simpa using HSf
    generalize Cc.size (x - y) = sz at *
    go_wp2_with (go_at_call 30; refine (HJm.out _).mono ?_; rintro e w8 ⟨rfl, hw8⟩; rw [hw8]; clear hw8 w8)
    refine region_src 18 (psiL [eqV (.slice (some ⟨T, 0, none⟩) (P.n + 1) k7), eqV (.pointer (some ⟨B, 1, none⟩)), eqV (.slice (some ⟨mb, mo, none⟩) P.m mc), eqV (.pointer (some ⟨B, 0, none⟩)), eqV (.slice (some ⟨ib, io, none⟩) P.n ic), eqV (.int .i64 (k : Int)), eqV (.pointer (some ⟨ib, io + k * 9, none⟩)), eqV (.pointer (some ⟨ib, io + k * 9 + 8, none⟩)), eqV (.int .i64 (lb : Int)), eqV (.pointer (some ⟨mb, mo + lb, none⟩)), eqV (.int .i64 (mk : Int)), eqV (.pointer (some ⟨T, mk, none⟩)), eqV (.int .i64 x), eqV (.slice (some ⟨T, 0, none⟩) (P.n + 1) k7), eqV (.int .i64 (k : Int)), eqV (.int .i64 ((k : Int) + 1)), eqV (.pointer (some ⟨T, k + 1, none⟩)), eqV (.int .i64 y)]) (by kernel_rfl) (by kernel_rfl) (by kernel_rfl) (by kernel_rfl) (psiL_hst (by repeat (first | exact stab_nil | refine stab_cons ?_ ?_ | exact stab_eq _))) ?_ ?_
    ·simp only [List.take_succ_cons, List.take_zero]
     refine ⟨?_, ?_, ?_, ?_, ?_, ?_, ?_, ?_, ?_, ?_, ?_, ?_, ?_, ?_, ?_, ?_, ?_, ?_, trivial⟩
     ·intro VV W0 AA g hV hs hz
      have e07 := hz 7 (.slice (some ⟨T, 0, none⟩) (P.n + 1) k7) (by kernel_rfl) rfl
      refine ov (v := .slice (some ⟨T, 0, none⟩) (P.n + 1) k7) ?_ rfl
      simp [go_sem, e07]
     ·intro VV W0 AA g hV hs hz
      have e03 := hz 3 (.pointer (some ⟨B, 0, none⟩)) (by kernel_rfl) rfl
      refine ov (v := .pointer (some ⟨B, 1, none⟩)) ?_ rfl
      simp [go_sem, e03]
     ·intro VV W0 AA g hV hs hz
      have gD : wr.grownBy W0 none := gdd g
      have q1 := psiL_eq (hV 1 (by kernel_rfl)) rfl
      have e1 := hs 45 1 (by kernel_rfl) (by kernel_rfl)
      have x0 := gD.cell d1 (by simp)
      refine ov (v := .slice (some ⟨mb, mo, none⟩) P.m mc) ?_ rfl
      simp [go_sem, q1, e1, x0]
     ·intro VV W0 AA g hV hs hz
      have e03 := hz 3 (.pointer (some ⟨B, 0, none⟩)) (by kernel_rfl) rfl
      refine ov (v := .pointer (some ⟨B, 0, none⟩)) ?_ rfl
      simp [go_sem, e03]
     ·intro VV W0 AA g hV hs hz
      have gD : wr.grownBy W0 none := gdd g
      have q3 := psiL_eq (hV 3 (by kernel_rfl)) rfl
      have e3 := hs 47 3 (by kernel_rfl) (by kernel_rfl)
      have x0 := gD.cell d0 (by simp)
      refine ov (v := .slice (some ⟨ib, io, none⟩) P.n ic) ?_ rfl
      simp [go_sem, q3, e3, x0]
     ·intro VV W0 AA g hV hs hz
      have e09 := hz 9 (.int .i64 (k : Int)) (by kernel_rfl) rfl
      refine ov (v := .int .i64 (k : Int)) ?_ rfl
      simp [go_sem, e09]
     ·intro VV W0 AA g hV hs hz
      have q4 := psiL_eq (hV 4 (by kernel_rfl)) rfl
      have e4 := hs 48 4 (by kernel_rfl) (by kernel_rfl)
      have q5 := psiL_eq (hV 5 (by kernel_rfl)) rfl
      have e5 := hs 49 5 (by kernel_rfl) (by kernel_rfl)
      refine ov (v := .pointer (some ⟨ib, io + k * 9, none⟩)) ?_ rfl
      simp [go_sem, q4, e4, q5, e5, hkn']
     ·intro VV W0 AA g hV hs hz
      have q6 := psiL_eq (hV 6 (by kernel_rfl)) rfl
      have e6 := hs 50 6 (by kernel_rfl) (by kernel_rfl)
      refine ov (v := .pointer (some ⟨ib, io + k * 9 + 8, none⟩)) ?_ rfl
      simp [go_sem, q6, e6]
     ·intro VV W0 AA g hV hs hz
      have gD : wr.grownBy W0 none := gdd g
      have q7 := psiL_eq (hV 7 (by kernel_rfl)) rfl
      have e7 := hs 51 7 (by kernel_rfl) (by kernel_rfl)
      have x0 := gD.cell i8 (by simp)
      refine ov (v := .int .i64 (lb : Int)) ?_ rfl
      simp [go_sem, q7, e7, x0]
     ·intro VV W0 AA g hV hs hz
      have q2 := psiL_eq (hV 2 (by kernel_rfl)) rfl
      have e2 := hs 46 2 (by kernel_rfl) (by kernel_rfl)
      have q8 := psiL_eq (hV 8 (by kernel_rfl)) rfl
      have e8 := hs 52 8 (by kernel_rfl) (by kernel_rfl)
      refine ov (v := .pointer (some ⟨mb, mo + lb, none⟩)) ?_ rfl
      simp [go_sem, q2, e2, q8, e8, hlm']
     ·intro VV W0 AA g hV hs hz
      have gD : wr.grownBy W0 none := gdd g
      have q9 := psiL_eq (hV 9 (by kernel_rfl)) rfl
      have e9 := hs 53 9 (by kernel_rfl) (by kernel_rfl)
      have x0 := gD.cell hmc (by simp)
      refine ov (v := .int .i64 (mk : Int)) ?_ rfl
      simp [go_sem, q9, e9, x0]
     ·intro VV W0 AA g hV hs hz
      have q0 := psiL_eq (hV 0 (by kernel_rfl)) rfl
      have e0 := hs 44 0 (by kernel_rfl) (by kernel_rfl)
      have q10 := psiL_eq (hV 10 (by kernel_rfl)) rfl
      have e10 := hs 54 10 (by kernel_rfl) (by kernel_rfl)
      refine ov (v := .pointer (some ⟨T, mk, none⟩)) ?_ rfl
      simp [go_sem, q0, e0, q10, e10, hmn']
     ·intro VV W0 AA g hV hs hz
      have gD : wr.grownBy W0 none := gdd g
      have q11 := psiL_eq (hV 11 (by kernel_rfl)) rfl
      have e11 := hs 55 11 (by kernel_rfl) (by kernel_rfl)
      have x0 := gD.cell t1 (by simp)
      refine ov (v := .int .i64 x) ?_ rfl
      simp [go_sem, q11, e11, x0]
     ·intro VV W0 AA g hV hs hz
      have e07 := hz 7 (.slice (some ⟨T, 0, none⟩) (P.n + 1) k7) (by kernel_rfl) rfl
      refine ov (v := .slice (some ⟨T, 0, none⟩) (P.n + 1) k7) ?_ rfl
      simp [go_sem, e07]
     ·intro VV W0 AA g hV hs hz
      have e09 := hz 9 (.int .i64 (k : Int)) (by kernel_rfl) rfl
      refine ov (v := .int .i64 (k : Int)) ?_ rfl
      simp [go_sem, e09]
     ·intro VV W0 AA g hV hs hz
      have q14 := psiL_eq (hV 14 (by kernel_rfl)) rfl
      have e14 := hs 58 14 (by kernel_rfl) (by kernel_rfl)
      refine ov (v := .int .i64 ((k : Int) + 1)) ?_ rfl
      simp [go_sem, q14, e14, hwk]
     ·intro VV W0 AA g hV hs hz
      have q13 := psiL_eq (hV 13 (by kernel_rfl)) rfl
      have e13 := hs 57 13 (by kernel_rfl) (by kernel_rfl)
      have q15 := psiL_eq (hV 15 (by kernel_rfl)) rfl
      have e15 := hs 59 15 (by kernel_rfl) (by kernel_rfl)
      refine ov (v := .pointer (some ⟨T, k + 1, none⟩)) ?_ rfl
      simp [go_sem, q13, e13, q15, e15, hk1, hk2]
     ·intro VV W0 AA g hV hs hz
      have gD : wr.grownBy W0 none := gdd g
      have q16 := psiL_eq (hV 16 (by kernel_rfl)) rfl
      have e16 := hs 60 16 (by kernel_rfl) (by kernel_rfl)
      have x0 := gD.cell t2 (by simp)
      refine ov (v := .int .i64 y) ?_ rfl
      simp [go_sem, q16, e16, x0]
    ·intro VV W0 g hV
     have gD : wr.grownBy W0 none := gdd g
     have h0 := psiL_eq (hV 0 (by decide)) rfl
     have h1 := psiL_eq (hV 1 (by decide)) rfl
     have h2 := psiL_eq (hV 2 (by decide)) rfl
     have h3 := psiL_eq (hV 3 (by decide)) rfl
     have h4 := psiL_eq (hV 4 (by decide)) rfl
     have h5 := psiL_eq (hV 5 (by decide)) rfl
     have h6 := psiL_eq (hV 6 (by decide)) rfl
     have h7 := psiL_eq (hV 7 (by decide)) rfl
     have h8 := psiL_eq (hV 8 (by decide)) rfl
     have h9 := psiL_eq (hV 9 (by decide)) rfl
     have h10 := psiL_eq (hV 10 (by decide)) rfl
     have h11 := psiL_eq (hV 11 (by decide)) rfl
     have h12 := psiL_eq (hV 12 (by decide)) rfl
     have h13 := psiL_eq (hV 13 (by decide)) rfl
     have h14 := psiL_eq (hV 14 (by decide)) rfl
     have h15 := psiL_eq (hV 15 (by decide)) rfl
     have h16 := psiL_eq (hV 16 (by decide)) rfl
     have h17 := psiL_eq (hV 17 (by decide)) rfl
     simp [frV, dstOf, Act.put, h0, h1, h2, h3, h4, h5, h6, h7, h8, h9, h10, h11, h12, h13, h14, h15, h16, h17]
     clear h0 h1 h2 h3 h4 h5 h6 h7 h8 h9 h10 h11 h12 h13 h14 h15 h16 h17 hV g
     have GR : Hid (wr.grownBy W0 none) := gD
     clear gD
     go_wp2_with (go_at_call 52; refine (HSi.out _).mono ?_; rintro e w9 ⟨rfl, hw9⟩; rw [hw9]; clear hw9 w9)
     go_roundw
     case rel => exact ⟨k + 1, by go_num, by omega, by rw [Lk.Sh.any_succ, HBd.out, Bool.or_false], (HFk.out.grow GR.out).congr (fun i _ => (Lk.Sh.step_ok HBd.out i).symm), HChk.out.trans (Ch.of GR.out)⟩
     case measure => simp [intOf]; omega
theorem rgrown_r {N : Nat} {w : World} {P : Lk.PcV} {ia ma : Option Addr} {ic mc : Nat} {out p : Int} {L0 : Nat → Bool} (h : InsIn N w ia P.n ic P.I) (hm : NumIn N w ma P.m mc P.M) (hok : P.Ok 1 p) (hL : (P.sh 1).Least L0) (hn : P.n * 72 ≤ reachBytes) (hN : N ≤ w.heap.size) :
  Calls Tryz.prog 29 #[.int .i64 1, .agg #[.slice ia P.n ic, .slice ma P.m mc, .int .i64 out]] w fun e w' => ∃ v1 v2, e = .returned (.tuple #[v1, v2]) ∧ OwnZ w' w.heap.size v2 ((List.range (P.n + 1)).map (Lk.pos ((P.sh 1).size L0))) ∧ w.grownBy w' none := by
 have hle := h.le
 have hmx := h.max
 have hml := hm.le
 have hmm := hm.max
 unfold maxLen at hmx hmm
 have hn72 : P.n * 72 ≤ 140737488351232 := hn
 have hn0 : (P.n : Int) ≤ 1954687338212 := by omega
 obtain ⟨H, hH⟩ : ∃ H, H = P.sh 1 := ⟨_, rfl⟩
 have hOk : H.Ok := by rw [hH]; exact hok.sh
 have hHn : H.n = P.n := by rw [hH]; rfl
 have HL : Hid (H.Least L0) := by rw [hH]; exact hL
 have HSz : Hid (∀ L i, szT 1 (P.I i) (L i) = H.size L i) := fun L i => by rw [hH]; rfl
 have HJ : Hid (∀ i, H.j i = Lk.jmpB (P.I i).op) := fun i => by rw [hH]; rfl
 have HR : Hid (∀ i, i < P.n → Lk.jmpB (P.I i).op = true → ∃ lb mk : Nat, (P.I i).label = lb ∧ lb < P.m ∧ P.M lb = mk ∧ mk ≤ P.n ∧ H.tg i = mk) := fun i hi hj => by
  have hl := Lk.lab_jmp (hok.may hi).1 hj
  have hmk := hok.marks (P.I i).label.toNat (by omega)
  refine ⟨(P.I i).label.toNat, (P.M (P.I i).label.toNat).toNat, by omega, by omega, by omega, by omega, ?_⟩
  rw [hH]
  rfl
 rw [← hH]
 clear hok hL hH
 have g0 := World.grownBy_alloc w (.cells #[.slice ia P.n ic, .slice ma P.m mc, .int .i64 out] 48) none
 obtain ⟨W2, hmk2, ho2, hg2⟩ := run_make_f (w.alloc (.cells #[.slice ia P.n ic, .slice ma P.m mc, .int .i64 out] 48)) P.n (by omega)
 have c0 := hg2.cell (cells_new (w := w) #[.slice ia P.n ic, .slice ma P.m mc, .int .i64 out] 48 rfl 0) (by simp)
 have c1 := hg2.cell (cells_new (w := w) #[.slice ia P.n ic, .slice ma P.m mc, .int .i64 out] 48 rfl 1) (by simp)
 have c2 := hg2.cell (cells_new (w := w) #[.slice ia P.n ic, .slice ma P.m mc, .int .i64 out] 48 rfl 2) (by simp)
 have HG2 : Hid (w.grownBy W2 none) := gtr g0 hg2
 have s2 := hg2.size
 simp only [size_alloc] at ho2 s2
 have HO2 : Hid (OwnF W2 (w.heap.size + 1) (.slice (some ⟨w.heap.size + 1, 0, none⟩) P.n P.n) P.n (fun _ => false)) := ho2
 have HI : Hid (InsIn N W2 ia P.n ic P.I) := h.grow (gtr g0 hg2)
 have HM : Hid (NumIn N W2 ma P.m mc P.M) := hm.grow (gtr g0 hg2)
 obtain ⟨B, hB⟩ : ∃ B, B = w.heap.size := ⟨_, rfl⟩
 obtain ⟨F, hF⟩ : ∃ F, F = w.heap.size + 1 := ⟨_, rfl⟩
 have HB : Hid (B = w.heap.size ∧ F = w.heap.size + 1 ∧ F < W2.heap.size) := ⟨hB, hF, by rw [hF]; exact (World.ownsRow.lt ho2 _ rfl).2⟩
 clear h hm g0 ho2 hg2
 go_enter Tryz.func29, Tryz.ntmps29
 go_wp2_with fail
 clear hmk2
 rw [← hB] at c0 c1 c2
 rw [← hF] at HO2
 rw [← hF, ← hB]
 clear hB hF
 have hLe : ∀ i, H.size L0 i = 8 := fun i => by rw [← HSz.out L0 i]; exact szT_one _ _
 have HLe : Hid (∀ i, H.size (fun _ => false) i = H.size L0 i) := fun i => by rw [hLe, ← HSz.out (fun _ => false) i]; exact szT_one _ _
 have hBF : B ∉ [F] := by have := HB.out; simp; omega
 have hpl := rplaces6_any (t := 1) (.inl rfl) (m := P.m) (mc := mc) (ma := ma) (out := out) HI.out (HO2.out.far (Nat.le_refl _)) hn0
 rw [show (fun i => szT 1 (P.I i) ((fun _ => false) i)) = H.size L0 from funext fun i => by rw [HSz.out (fun _ => false) i]; exact HLe.out i] at hpl
 have HPl : Hid (Calls Tryz.prog 51 #[.int .i64 1, .agg #[.slice ia P.n ic, .slice ma P.m mc, .int .i64 out], .slice (some ⟨F, 0, none⟩) P.n P.n] W2 fun e w' => ∃ v, e = .returned v ∧ OwnZ w' W2.heap.size v ((List.range (P.n + 1)).map (Lk.pos (H.size L0))) ∧ W2.grownBy w' none) := hpl
 clear hpl hLe hBF
 refine wp_loop_once ?_
 go_wp2_with (go_at_call 51; refine HPl.out.mono ?_; rintro e w7 ⟨v7, rfl, ho7, hg7⟩; have HO7 : Hid (OwnZ w7 W2.heap.size v7 ((List.range (P.n + 1)).map (Lk.pos (H.size L0))) ∧ W2.grownBy w7 none) := ⟨ho7, hg7⟩; have e0 := hg7.cell c0 (by simp); clear ho7 hg7)
 refine wp_loop_once ?_
 go_wp2
 all_goals (
  go_ret2
  have h1 := HO7.out.1.low (base' := w.heap.size) HG2.out.size
  exact ⟨_, _, rfl, h1, gtr HG2.out HO7.out.2⟩)
end Go.Proofs.YtkiockffejlnhaaGreatDoor
