/- (*Mem).Get; gantryref0.EqBytes, CopyBytes; gantrylaw0.Bytes: contracts. -/
import Derived.Test.YtkpmhgkljedapaaMGet
namespace Go.Proofs.Ytkpmhgkljedapaa
open Go.RowKit
set_option linter.unusedVariables false

theorem bytesL_zero (g : Nat → Int) : bytesL 0 g = [] := rfl
theorem bytesL_set (n : Nat) (g : Nat → Int) (k : Nat) (y : Int) : (bytesL n g).set k (.int .u8 y) = bytesL n (fun j => if j = k then y else g j) := by
  refine List.ext_getElem? fun i => ?_
  by_cases hi : i < n
  · rw [bytesL_at _ hi, List.getElem?_set]
    by_cases e : k = i
    · subst e; simp [bytesL_len, hi]
    · rw [if_neg e, bytesL_at _ hi, if_neg (fun h => e (Eq.symm h))]
  · rw [List.getElem?_eq_none (by rw [List.length_set, bytesL_len]; omega), List.getElem?_eq_none (by rw [bytesL_len]; omega)]

theorem bytesL_cells {w : World} {n b o' : Nat} {g : Nat → Int} (hc : ∀ i, i < n → w.cell? ⟨b, o' + i, none⟩ = some (.int .u8 (g i))) : ∀ j u, (bytesL n g)[j]? = some u → w.cell? ((⟨b, o', none⟩ : Addr).add j) = some u := by
  intro j u hu
  obtain ⟨hj, rfl⟩ := bytesL_get hu
  rw [add_none]
  exact hc j hj

theorem grown_two {w w1 w2 : World} {b : Nat} (hg1 : w.grownBy w1 none) (hg2 : w1.grownBy w2 (some b)) (hb : w.heap.size ≤ b) : w.grownBy w2 none := by
  refine ⟨hg2.os.trans hg1.os, hg2.tape.trans hg1.tape, hg2.output.trans hg1.output, Nat.le_trans hg1.size hg2.size, fun k hk _ => ?_⟩
  have hne : some k ≠ some b := by intro e; injection e with e; omega
  exact (hg2.block k (Nat.lt_of_lt_of_le hk hg1.size) hne).trans (hg1.block k hk (by simp))

theorem run_copy_out0 {w : World} :
    ∃ w1, (Instr.makeSlice 23 (.int .i64 0) (.int .i64 0)).run Try.prog w = .ok (.slice (some ⟨w.heap.size, 0, none⟩) 0 0) w1 ∧
      (Builtin.append_ #[23, 23] 23 #[.slice (some ⟨w.heap.size, 0, none⟩) 0 0, .slice none 0 0]).run Try.prog w1 = .ok (.slice (some ⟨w.heap.size, 0, none⟩) 0 0) w1 ∧
      (∀ g, OwnB w1 w.heap.size (.slice (some ⟨w.heap.size, 0, none⟩) 0 0) 0 g) ∧ w.grownBy w1 none := by
  obtain ⟨i, hi, hz0, hz1, hz2⟩ := info_parts info_u8
  obtain ⟨w1, h1, ho1, hg1⟩ := run_make_own (P := Try.prog) w w.heap.size 23 5 i (.int .u8 0) 1 Try.underlying23 hi hz0 hz1 .i64 .i64 0 (by omega) (by unfold maxLen; omega) (Nat.le_refl _)
  exact ⟨w1, h1, run_append_owned_none (P := Try.prog) w1 w.heap.size 23 23 5 i 1 Try.underlying23 hi _ 0 [] ho1, fun g => ho1, hg1⟩

theorem Bs.at {w : World} {ao : Option Addr} {n : Nat} {g : Nat → Int} (h : Bs w ao n g) (hn : 0 < n) : ∃ b off, ao = some ⟨b, off, none⟩ ∧ ∀ i, i < n → w.cell? ⟨b, off + i, none⟩ = some (.int .u8 (g i)) := by
  rcases h with h | h
  · omega
  · exact h

set_option maxHeartbeats 800000 in
theorem eq_true (n ca cb b o b' o' : Nat) (g g' : Nat → Int) (w : World) (hn : (n : Int) ≤ 140737488351232)
    (ha : ∀ i, i < n → w.cell? ⟨b, o + i, none⟩ = some (.int .u8 (g i))) (hb : ∀ i, i < n → w.cell? ⟨b', o' + i, none⟩ = some (.int .u8 (g' i))) (he : ∀ i, i < n → g i = g' i) :
    Calls Try.prog 9 #[.slice (some ⟨b, o, none⟩) n ca, .slice (some ⟨b', o', none⟩) n cb] w fun e w' => e = .returned (.bool true) ∧ ∃ d, w' = w.drewN d := by
  have HA : Hid (∀ i, i < n → w.cell? ⟨b, o + i, none⟩ = some (.int .u8 (g i))) := ha
  have HB : Hid (∀ i, i < n → w.cell? ⟨b', o' + i, none⟩ = some (.int .u8 (g' i))) := hb
  have HE : Hid (∀ i, i < n → g i = g' i) := he
  clear ha hb he
  go_enter Try.func9, Try.ntmps9
  go_wp2
  go_loopw [5] (fun s wr => ∃ k : Nat, k ≤ n ∧ s = .int .i64 k ∧ ∃ d, wr = w.drewN d) (fun s _ => n - (intOf s).toNat)
  case atStart => exact ⟨0, Nat.zero_le _, rfl, 0, rfl⟩
  case round =>
    obtain ⟨k, hk, rfl, d, rfl⟩ := hrel
    by_cases hlt : k < n
    · have c1 : (w.drewN d).cell? ⟨b, o + k, none⟩ = some (.int .u8 (g k)) := HA.out k hlt
      have c2 : (w.drewN d).cell? ⟨b', o' + k, none⟩ = some (.int .u8 (g k)) := by rw [HE.out k hlt]; exact HB.out k hlt
      have HW : Hid (∃ d', w.drewN d = w.drewN d') := ⟨d, rfl⟩
      have hlt' : (k : Int) < (n : Int) := by omega
      generalize w.drewN d = W at *
      generalize g k = y at *
      go_wp2_with fail
      go_quiet (fail)
      go_wp2
      go_roundw
      case rel => obtain ⟨d', rfl⟩ := HW.out; exact ⟨k + 1, by omega, by go_num, _, World.drewN_drewN _ _ _⟩
      case measure => simp [intOf]; omega
    · obtain rfl : k = n := by omega
      go_wp2
      go_ret
      exact ⟨rfl, d, rfl⟩

set_option maxHeartbeats 800000 in
theorem eq_none (ca cb : Nat) (ao bo : Option Addr) (w : World) :
    Calls Try.prog 9 #[.slice ao 0 ca, .slice bo 0 cb] w fun e w' => e = .returned (.bool true) ∧ ∃ d, w' = w.drewN d := by
  go_enter Try.func9, Try.ntmps9
  go_wp2
  go_loopw [5] (fun s wr => s = .int .i64 0 ∧ wr = w) (fun s _ => 0)
  case atStart => exact ⟨rfl, rfl⟩
  case round =>
    obtain ⟨rfl, rfl⟩ := hrel
    go_wp2
    go_ret
    exact ⟨rfl, 0, rfl⟩

/-- are two rows of bytes the same? -/
def eqF (n : Nat) (g g' : Nat → Int) : Bool := decide (∀ i, i < n → g i = g' i)
theorem eqF_true {n : Nat} {g g' : Nat → Int} (h : ∀ i, i < n → g i = g' i) : eqF n g g' = true := decide_eq_true h
theorem eqF_false {n : Nat} {g g' : Nat → Int} {i : Nat} (hi : i < n) (h : g i ≠ g' i) : eqF n g g' = false := decide_eq_false fun a => h (a i hi)

set_option maxHeartbeats 800000 in
theorem eq_gen (n ca cb b o b' o' : Nat) (g g' : Nat → Int) (w : World) (hn : (n : Int) ≤ 140737488351232)
    (ha : ∀ i, i < n → w.cell? ⟨b, o + i, none⟩ = some (.int .u8 (g i))) (hb : ∀ i, i < n → w.cell? ⟨b', o' + i, none⟩ = some (.int .u8 (g' i))) :
    Calls Try.prog 9 #[.slice (some ⟨b, o, none⟩) n ca, .slice (some ⟨b', o', none⟩) n cb] w fun e w' => e = .returned (.bool (eqF n g g')) ∧ ∃ d, w' = w.drewN d := by
  have HA : Hid (∀ i, i < n → w.cell? ⟨b, o + i, none⟩ = some (.int .u8 (g i))) := ha
  have HB : Hid (∀ i, i < n → w.cell? ⟨b', o' + i, none⟩ = some (.int .u8 (g' i))) := hb
  clear ha hb
  go_enter Try.func9, Try.ntmps9
  go_wp2
  go_loopw [5] (fun s wr => ∃ k : Nat, k ≤ n ∧ s = .int .i64 k ∧ (∀ j, j < k → g j = g' j) ∧ ∃ d, wr = w.drewN d) (fun s _ => n - (intOf s).toNat)
  case atStart => exact ⟨0, Nat.zero_le _, rfl, fun j h => by omega, 0, rfl⟩
  case round =>
    obtain ⟨k, hk, rfl, hsame, d, rfl⟩ := hrel
    have HSM : Hid (∀ j, j < k → g j = g' j) := hsame
    clear hsame
    by_cases hlt : k < n
    · have c1 : (w.drewN d).cell? ⟨b, o + k, none⟩ = some (.int .u8 (g k)) := HA.out k hlt
      have c2 : (w.drewN d).cell? ⟨b', o' + k, none⟩ = some (.int .u8 (g' k)) := HB.out k hlt
      have HW : Hid (∃ d', w.drewN d = w.drewN d') := ⟨d, rfl⟩
      have hlt' : (k : Int) < (n : Int) := by omega
      by_cases he : g k = g' k
      · have HST : Hid (∀ j, j < k + 1 → g j = g' j) := fun j hj => by
          by_cases h : j = k
          · rw [h]; exact he
          · exact HSM.out j (by omega)
        rw [← he] at c2
        clear he
        generalize w.drewN d = W at *
        generalize g k = y at *
        go_wp2_with fail
        go_quiet (fail)
        go_wp2
        go_roundw
        case rel => obtain ⟨d', rfl⟩ := HW.out; exact ⟨k + 1, by omega, by go_num, HST.out, _, World.drewN_drewN _ _ _⟩
        case measure => simp [intOf]; omega
      · have HF : Hid (eqF n g g' = false) := eqF_false hlt he
        have he' : (g k != g' k) = true := by simpa using he
        clear he
        generalize w.drewN d = W at *
        generalize g k = y at *
        generalize g' k = y' at *
        go_wp2_with fail
        go_quiet (fail)
        go_wp2
        go_ret
        obtain ⟨d', rfl⟩ := HW.out
        exact ⟨ret_bool HF.out.symm, _, World.drewN_drewN _ _ _⟩
    · obtain rfl : k = n := by omega
      have HT : Hid (eqF k g g' = true) := eqF_true HSM.out
      go_wp2
      go_ret
      exact ⟨ret_bool HT.out.symm, d, rfl⟩

theorem eqB (n ca cb : Nat) (ao bo : Option Addr) (g g' : Nat → Int) (w : World) (hn : (n : Int) ≤ 140737488351232) (ha : Bs w ao n g) (hb : Bs w bo n g') (he : ∀ i, i < n → g i = g' i) :
    Calls Try.prog 9 #[.slice ao n ca, .slice bo n cb] w fun e w' => e = .returned (.bool true) ∧ ∃ d, w' = w.drewN d := by
  by_cases h0 : n = 0
  · subst h0; exact eq_none ca cb ao bo w
  · obtain ⟨b, o, rfl, ha1⟩ := ha.at (by omega)
    obtain ⟨b', o', rfl, hb1⟩ := hb.at (by omega)
    exact eq_true n ca cb b o b' o' g g' w hn ha1 hb1 he

set_option maxHeartbeats 800000 in
theorem copyB (n cap : Nat) (ao : Option Addr) (g : Nat → Int) (w : World) (hn : (n : Int) ≤ 140737488351232) (h0 : ao = none → n = 0 ∧ cap = 0) (ha : Bs w ao n g) :
    Calls Try.prog 13 #[.slice ao n cap] w fun e w' => ∃ v, e = .returned v ∧ OwnB w' w.heap.size v n g ∧ w.grownBy w' none := by
  obtain ⟨i, hi, hz0, hz1, hz2⟩ := info_parts info_u8
  cases ao with
  | none =>
    obtain ⟨rfl, rfl⟩ := h0 rfl
    go_enter Try.func13, Try.ntmps13
    go_wp2_with (at_builtin; refine wpList_append_own_none rfl _ _ 23 rfl w.heap.size 5 i 1 Try.underlying23 hi _ 0 [] rfl (World.ownsRow_nil _ _ _ _) rfl ?_)
    go_ret
    exact ⟨_, rfl, World.ownsRow_nil _ _ _ _, World.grownBy.refl _ _⟩
  | some ad =>
    have HC : Hid (∀ j u, (bytesL n g)[j]? = some u → w.cell? (ad.add j) = some u) := by
      intro j u hu
      obtain ⟨hj, rfl⟩ := bytesL_get hu
      obtain ⟨b, o, e, hc⟩ := ha.at (by omega)
      injection e with e
      subst e
      rw [add_none]
      exact hc j hj
    clear ha h0
    go_enter Try.func13, Try.ntmps13
    go_wp2_with (at_builtin; refine wpList_append_own _ rfl _ _ 23 rfl w.heap.size 5 i (.int .u8 0) 1 1 Try.underlying23 hi hz0 hz1 hz2 rfl (by decide) _ 0 [] rfl (World.ownsRow_nil _ _ _ _) ad n cap (bytesL n g) rfl (by rw [bytesL_len]; omega) HC.out (bytesL_one _ _) (by unfold maxLen; omega) (by omega) (Nat.le_refl _) ?_; intro v' w2 ho2 hg2 hv2; simp only [Nat.zero_add, List.nil_append] at ho2)
    go_ret
    exact ⟨_, rfl, ho2, hg2⟩

theorem OwnB.store {w : World} {base n b cap : Nat} {g : Nat → Int} (h : OwnB w base (.slice (some ⟨b, 0, none⟩) n cap) n g) (k : Nat) (y : Int) :
    OwnB (w.setCell ⟨b, k, none⟩ (.int .u8 y)) base (.slice (some ⟨b, 0, none⟩) n cap) n (fun j => if j = k then y else g j) := by
  have := World.ownsRow.stored h k (.int .u8 y)
  rw [bytesL_set] at this
  exact this.1

theorem OwnB.cellAt {w : World} {base n b cap : Nat} {g : Nat → Int} (h : OwnB w base (.slice (some ⟨b, 0, none⟩) n cap) n g) {k : Nat} (hk : k < n) : w.cell? ⟨b, k, none⟩ = some (.int .u8 (g k)) :=
  (World.ownsRow.cellAt h k (by omega)).trans (bytesL_at g hk)

set_option maxHeartbeats 800000 in
theorem spoil_nil (base : Nat) (w : World) :
    Calls Try.prog 11 #[.slice none 0 0] w fun e w' => e = .returned (.tuple #[]) ∧ w.grownBy w' none := by
  obtain ⟨i, hi, hz0, hz1, hz2⟩ := info_parts info_u8
  go_enter Try.func11, Try.ntmps11
  go_wp2
  go_loopw [2] (fun s wr => s = .int .i64 0 ∧ wr = w) (fun s _ => 0)
  case atStart => exact ⟨rfl, rfl⟩
  case round =>
    obtain ⟨rfl, rfl⟩ := hrel
    go_wp2_with (at_builtin; refine wpList_append_own _ rfl _ _ 23 rfl wr.heap.size 5 i (.int .u8 0) 1 1 Try.underlying23 hi hz0 hz1 hz2 rfl (by decide) _ 0 [] rfl (World.ownsRow_nil _ _ _ _) ⟨wr.heap.size, 0, none⟩ 2 2 [.int .u8 7, .int .u8 7] rfl rfl (by intro j u hj; match j, hj with | 0, hj => simp at hj; subst hj; simp [Addr.add] | 1, hj => simp at hj; subst hj; simp [Addr.add]) (by simp; rfl) (by unfold maxLen; omega) (by omega) (by simp) ?_; intro v' w2 ho2 hg2 hv2)
    go_end0
    exact ⟨rfl, grown_trans (World.grownBy_alloc _ _ _) hg2⟩

set_option maxHeartbeats 800000 in
theorem spoil_some (base b n cap : Nat) (g : Nat → Int) (w : World) (hn : (n : Int) ≤ 1048576) (hb : base ≤ w.heap.size) (h : OwnB w base (.slice (some ⟨b, 0, none⟩) n cap) n g) :
    Calls Try.prog 11 #[.slice (some ⟨b, 0, none⟩) n cap] w fun e w' => e = .returned (.tuple #[]) ∧ w.grownBy w' (some b) := by
  obtain ⟨i, hi, hz0, hz1, hz2⟩ := info_parts info_u8
  go_enter Try.func11, Try.ntmps11
  go_wp2
  go_loopw [2] (fun s wr => ∃ k : Nat, k ≤ n ∧ s = .int .i64 k ∧ (∃ g', OwnB wr base (.slice (some ⟨b, 0, none⟩) n cap) n g') ∧ w.grownBy wr (some b)) (fun s _ => n - (intOf s).toNat)
  case atStart => exact ⟨0, Nat.zero_le _, rfl, ⟨g, h⟩, World.grownBy.refl _ _⟩
  case round =>
    obtain ⟨k, hk, rfl, ⟨g', ho⟩, hgr⟩ := hrel
    by_cases hlt : k < n
    · have c := ho.cellAt hlt
      have f := World.ownsRow.frozenAt ho k
      go_wp2
      go_roundw
      case rel => exact ⟨k + 1, by omega, by go_num, ⟨_, ho.store k _⟩, grown_trans hgr (grown_setCell _ _ _ _)⟩
      case measure => simp [intOf]; omega
    · obtain rfl : k = n := by omega
      have hsz := hgr.size
      have hown : Hid ((wr.alloc (.cells #[.int .u8 7, .int .u8 7] 5)).ownsRow base 5 1 (.slice (some ⟨b, 0, none⟩) k cap) k (bytesL k g')) := World.ownsRow.alloc ho _
      go_wp2_with (at_builtin; refine wpList_append_own _ rfl _ _ 23 rfl base 5 i (.int .u8 0) 1 1 Try.underlying23 hi hz0 hz1 hz2 rfl (by decide) _ k (bytesL k g') rfl hown.out ⟨wr.heap.size, 0, none⟩ 2 2 [.int .u8 7, .int .u8 7] rfl rfl (by intro j u hj; match j, hj with | 0, hj => simp at hj; subst hj; simp [Addr.add] | 1, hj => simp at hj; subst hj; simp [Addr.add]) (by simp; rfl) (by unfold maxLen; omega) (by omega) (by simp; omega) ?_; intro v' w2 ho2 hg2 hv2)
      go_end0
      exact ⟨rfl, grown_trans hgr (grown_trans (World.grownBy_alloc _ _ _) hg2)⟩

theorem spoilB (base n : Nat) (v : Value) (g : Nat → Int) (w : World) (hn : (n : Int) ≤ 1048576) (hb : base ≤ w.heap.size) (h : OwnB w base v n g) :
    Calls Try.prog 11 #[v] w fun e w' => e = .returned (.tuple #[]) ∧ w.grownBy w' v.ownBlock := by
  rcases h.2 with ⟨rfl, rfl⟩ | ⟨b, cap, cur, rfl, _⟩
  · exact spoil_nil base w
  · exact spoil_some base b n cap g w hn hb h

end Go.Proofs.Ytkpmhgkljedapaa
